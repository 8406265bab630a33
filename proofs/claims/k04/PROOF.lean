import PyProof.Rows.All
import Wide.All
import OpenK.AllK
import Wide.FinOn
import PyProof.EqAt
import PyProof.EqKinds
import PyProof.TupleCall
import HandS.Set
import HandS.SetBool
import HandS.More
import HandS.Strs
import HandS.SetFor
import HandS.Words
import HandS.Exc
import HandS.ForMost
import HandS.Star
import HandS.ExcOwn
import HandS.WordsExc
import HandS.TryOnly
import HandS.Conv
import HandS.Wide
import HandS.CallSlots
import HandS.WideMore
import HandS.WideBits
import HandS.Text
import HandS.Deep
import HandS.IsInst
import HandS.FStr
import HandS.Zip
import HandS.Rev
import PyProof.InstEq
import PyProof.ListStr
import PyProof.JoinWalk
import KE.KCallOwn
import KE.KFmtOwn
import HandS.RevTup
import KE.KExcIs
import HandS.TupAny
import HandS.OwnEq
import HandS.SetKeys
import HandS.DictComp
import HandS.SortKw
import KE.DatumOrd
import HandS.EndBits
import KE.RegKIsAll
import HandS.ExcIs
import PySem.Challenge.RW_fanweave_k04_names_exchanged_for_terms
set_option Elab.async false
set_option linter.all false
set_option maxRecDepth 100000
set_option maxHeartbeats 2000000
/-! FW, part S: sets of texts: made by a comprehension, made of a list, asked, sorted. -/
namespace FwS
open PySem PySem.Spec PyProof.Rows L2

def keyS (e : Int × Value) : Str := match e.2 with
  | .str k _ => k
  | _ => Str.empty
def Good (w : World) (e : Int × Value) : Prop := ∃ k tk, e.2 = Value.str k tk ∧ e.1 = hashStr w k
/-- put in, once -/
def ins (xs : List Str) (k : Str) : List Str := if k ∈ xs then xs else xs ++ [k]
theorem ins_nodup {xs : List Str} {k : Str} (h : xs.Nodup) : (ins xs k).Nodup := by
  unfold ins
  split
  · exact h
  · rename_i hk
    rw [List.nodup_append]
    exact ⟨h, by simp, fun a ha b hb e => by simp at hb; subst hb; subst e; exact hk ha⟩
theorem ins_len (xs : List Str) (k : Str) : (ins xs k).length ≤ xs.length + 1 := by
  unfold ins
  split <;> simp
/-- the set of texts at a: its members -/
def SetS (w : World) (h : Heap) (a : Addr) (xs : List Str) : Prop :=
  ∃ o es ep t, h.get? a = some o ∧ o.ExactSet ∧ o.data = .set es ep t ∧ (∀ e ∈ es.toList, Good w e) ∧ (es.toList.map keyS).Perm xs ∧ xs.Nodup ∧
    es.size < scanBound ∧ t.fits es.size = true ∧ Ris t.place.toList ∧ (w.params.followText "set-order" = true ∨ t.led = true)
section
variable {P : Program} {w : World} {h h' : Heap} {a : Addr} {xs : List Str}
theorem SetS.at (R : SetS w h a xs) (k : ∀ o, h.get? a = some o → h'.get? a = some o) : SetS w h' a xs := by
  obtain ⟨o, es, ep, t, ho, r⟩ := R
  exact ⟨o, es, ep, t, k o ho, r⟩
theorem good_elems {l : List (Int × Value)} (g : ∀ e ∈ l, Good w e) : ElemsOf (strKind P w) l := fun e he => by
  obtain ⟨k, tk, h1, h2⟩ := g e he
  exact ⟨⟨k, by rw [h1]; exact keyIs_str k tk, h2⟩, by rw [h1] <;> rfl⟩
theorem good_is {e : Int × Value} (g : Good w e) (k : Str) : (strKind P w).is k e.2 = true ↔ keyS e = k := by
  obtain ⟨k0, tk, h1, _⟩ := g
  unfold keyS
  rw [h1]
  constructor
  · intro q
    obtain ⟨t, e⟩ := Value.isStrOf_shape (show Value.isStrOf k (Value.str k0 tk) = true from q)
    injection e
  · intro q
    have q' : k0 = k := q
    subst q'
    exact keyIs_str k0 tk
theorem good_mem {l : List (Int × Value)} (g : ∀ e ∈ l, Good w e) (k : Str) : k ∈ l.map keyS ↔ ∃ e ∈ l, (strKind P w).is k e.2 = true := by
  rw [List.mem_map]
  constructor
  · rintro ⟨e, he, q⟩
    exact ⟨e, he, (good_is (g e he) k).2 q⟩
  · rintro ⟨e, he, q⟩
    exact ⟨e, he, (good_is (g e he) k).1 q⟩
theorem SetS.setOf (R : SetS w h a xs) : h.SetOf (strKind P w) a (fun k => decide (k ∈ xs)) xs.length := by
  obtain ⟨o, es, ep, t, ho, hx, hd, g, pm, nd, hb, hf, hr, hl⟩ := R
  refine ⟨o, es, ep, t, ho, hx, hd, good_elems g, fun k => ?_, hb, hf, ?_⟩
  · rw [decide_eq_true_eq, ← pm.mem_iff]
    exact good_mem g k
  · rw [← pm.length_eq, List.length_map, Array.length_toList]
theorem SetS.size (R : SetS w h a xs) : xs.length < scanBound := by
  obtain ⟨o, es, ep, t, ho, hx, hd, g, pm, nd, hb, hf, hr, hl⟩ := R
  rw [← pm.length_eq, List.length_map, Array.length_toList]; exact hb
end
section
variable {P : Program} {w : World} {A : Around} {E : Value → Shared → Prop} {s : Shared} {a : Addr} {xs : List Str}
theorem store_at {h : Heap} {a : Addr} {o : Obj} {es es' : Array (Int × Value)} {ep : Nat} {t t' : SetTable} (ho : h.get? a = some o) (hd : o.data = .set es ep t) :
    (h.update a (Obj.putSet es' t')).get? a = some { o with data := .set es' (ep + 1) t' } := PpSet.storeB_at ho hd
/-- behind the search: the new member laid, the table perhaps laid anew -/
theorem laid_tail {g : Bool → Sem Unit} (hg : ∀ (b : Bool) (s₁ : Shared) (Q' : Unit → Shared → Prop), Q' () s₁ → wpAny (model P w) A (g b) Q' E s₁)
    {o : Obj} {es : Array (Int × Value)} {ep : Nat} {t : SetTable} (ho : s.heap.get? a = some o) (hex : o.ExactSet) (hd : o.data = .set es ep t)
    {es1 : Array (Int × Value)} {t2 : SetTable} {ys : List Str} (g1 : ∀ e ∈ es1.toList, Good w e) (p1 : (es1.toList.map keyS).Perm ys) (nd1 : ys.Nodup)
    (hb1 : es1.size < scanBound) (hf2 : t2.fits es1.size = true) (hr : Ris t2.place.toList) (hl : w.params.followText "set-order" = true ∨ t2.led = true) {wasDummy : Bool} {R : Option Bool → Shared → Prop}
    (hR : ∀ h', Heap.SameBut a s.heap h' → SetS w h' a ys → R (some true) { s with heap := h' }) :
    wpAny (model P w) A (do
        storeSet a es1 t2
        if (!wasDummy && t2.tooFull) = true then do
            g (relayAll t2 es1 (SetTable.grown es1.size)).2.2
            storeSet a (relayAll t2 es1 (SetTable.grown es1.size)).1 (relayAll t2 es1 (SetTable.grown es1.size)).2.1
            pure (some true)
          else pure (some true)) R E s := by
  refine wpAny_bind (wpAny_storeSet_of ho hd ?_ (fits_of_scanBound hb1))
  have ho1 := store_at (es' := es1) (t' := t2) ho hd
  have sb1 := Heap.SameBut.update s.heap a (Obj.putSet es1 t2)
  split
  · have pm := relayAll_perm t2 es1 (SetTable.grown es1.size)
    have hf3 := relayAll_fits t2 es1 (SetTable.grown es1.size)
    have hr3 := relayAll_ris t2 es1 (SetTable.grown es1.size)
    have hl3 := relayAll_led t2 es1 (SetTable.grown es1.size)
    generalize relayAll t2 es1 (SetTable.grown es1.size) = Z at pm hf3 hr3 hl3 ⊢
    obtain ⟨es2, t3, gave⟩ := Z
    dsimp only at pm hf3 hr3 hl3 ⊢
    have hsz : es2.size = es1.size := by rw [← Array.length_toList, pm.length_eq, Array.length_toList]
    have hb2 : es2.size < scanBound := by rw [hsz]; exact hb1
    refine wpAny_bind (hg _ _ _ ?_)
    refine wpAny_bind (wpAny_storeSet_of ho1 rfl ?_ (fits_of_scanBound hb2))
    have ho2 := store_at (es' := es2) (t' := t3) ho1 rfl
    refine wpAny_pure (hR _ (sb1.trans (Heap.SameBut.update _ a _)) ?_)
    exact ⟨_, es2, _, t3, ho2, hex, rfl, fun e he => g1 e (pm.mem_iff.mp he), (pm.map keyS).trans p1, nd1, hb2, hf3, hr3, hl.imp id fun z => by rw [hl3]; exact z⟩
  · exact wpAny_pure (hR _ sb1 ⟨_, es1, _, t2, ho1, hex, rfl, g1, p1, nd1, hb1, hf2, hr, hl⟩)
theorem add_hashed {k : Str} {tk : Tok} {Q : Bool → Shared → Prop} (R : SetS w s.heap a xs) (room : xs.length + 1 < scanBound)
    (hQ : ∀ (b : Bool) h', Heap.SameBut a s.heap h' → SetS w h' a (ins xs k) → Q b { s with heap := h' }) :
    wpAny (model P w) A (setAddHashed a (.str k tk) ((strKind P w).hash k)) Q E s := by
  obtain ⟨o, es, ep, t, ho, hex, hd, g, pm0, nd, hb, hf, hr, hl⟩ := R
  have hkey : (strKind P w).is k (.str k tk) = true := keyIs_str k tk
  have hsc : (Value.str k tk).scannable = true := rfl
  have hel : ElemsOf (strKind P w) es.toList := good_elems g
  have hsz0 : es.size = xs.length := by rw [← pm0.length_eq, List.length_map, Array.length_toList]
  unfold setAddHashed setAddHashedIn
  refine wpAny_holding (wpAny_bind (wpAny_setState_of ho hd hf ?_))
  dsimp only
  rw [byScan_of hsc hb hel]
  simp only [↓reduceIte]
  unfold setAddByScan
  refine wpAny_bind ?_
  refine wpAny_bind (wpAny_rule ?_)
  refine wpAny_bind (wpAny_setScan_of hkey ho hd hf hel ?_)
  cases hfi : List.findIdx? (fun e => (strKind P w).is k e.2) es.toList with
  | some j =>
    dsimp only
    obtain ⟨hj, pj, _⟩ := List.findIdx?_eq_some_iff_getElem.mp hfi
    have hmem : k ∈ xs := pm0.mem_iff.mp ((good_mem (P := P) (w := w) g k).2 ⟨es.toList[j], List.getElem_mem hj, pj⟩)
    refine wpAny_pure (wpAny_pure ?_)
    refine hQ _ s.heap (Heap.SameBut.refl a s.heap) ?_
    unfold ins
    rw [if_pos hmem]
    exact ⟨o, es, ep, t, ho, hex, hd, g, pm0, nd, hb, hf, hr, hl⟩
  | none =>
    dsimp only
    have hnk0 : k ∉ es.toList.map keyS := fun z => by
      obtain ⟨e, he, q⟩ := (good_mem (P := P) (w := w) g k).1 z
      have c := List.findIdx?_eq_none_iff.mp hfi e he
      rw [q] at c
      cases c
    have hnk : k ∉ xs := fun z => hnk0 (pm0.mem_iff.mpr z)
    have hins : ins xs k = xs ++ [k] := if_neg hnk
    have hgw : ∀ (b : Bool) {s₁ : Shared} {Q' : Unit → Shared → Prop}, Q' () s₁ → wpAny (model P w) A (match b with | true => rule "set.scan.the-table-gave-way" | false => pure ()) Q' E s₁ :=
      fun b s₁ Q' q => by cases b <;> first | exact wpAny_pure q | exact wpAny_rule q
    have pm := layNew_perm t es ((strKind P w).hash k) (.str k tk)
    have hf1 := layNew_fits t es ((strKind P w).hash k) (.str k tk)
    have hr1 := layNew_ris t es ((strKind P w).hash k) (.str k tk) hr
    have hl1 := layNew_led t es ((strKind P w).hash k) (.str k tk)
    generalize layNew t es ((strKind P w).hash k) (.str k tk) = Z at pm hf1 hr1 hl1 ⊢
    obtain ⟨es1, t1, wasDummy, gave⟩ := Z
    dsimp only at pm hf1 hr1 hl1 ⊢
    rw [Array.toList_push] at pm
    have p1 : (es1.toList.map keyS).Perm (ins xs k) := by
      rw [hins]
      have q := pm.map keyS
      rw [List.map_append] at q
      exact q.trans (pm0.append_right _)
    have g1 : ∀ e ∈ es1.toList, Good w e := fun e he => by
      rcases List.mem_append.mp (pm.mem_iff.mp he) with z | z
      · exact g e z
      · rw [List.mem_singleton.mp z]; exact ⟨k, tk, rfl, rfl⟩
    have nd1 : (ins xs k).Nodup := ins_nodup nd
    have hsz : es1.size = xs.length + 1 := by rw [← Array.length_toList, pm.length_eq, List.length_append, Array.length_toList, hsz0]; rfl
    have hb1 : es1.size < scanBound := by rw [hsz]; exact room
    have hled : w.params.followText "set-order" = true ∨ t1.led = true := hl.imp id fun z => by rw [hl1]; exact z
    refine wpAny_bind (hgw _ ?_)
    split
    · refine wpAny_bind ?_
      rw [hashByValue_scannable 8 hsc]
      refine wpAny_pure ?_
      refine laid_tail ?_ ho hex hd g1 p1 nd1 hb1 ?_ ?_ ?_ ?_
      · intro b s₁ Q' q; cases b <;> first | exact wpAny_pure q | exact wpAny_rule q
      · first | (split <;> first | exact hf1 | exact SetTable.fits_plain_off hf1) | exact hf1
      · first | (split <;> exact hr1) | exact hr1
      · first | (split <;> exact hled) | exact hled
      · intro h' sb r; dsimp only; exact wpAny_pure (hQ _ h' sb r)
    · refine wpAny_bind (wpAny_pure ?_)
      simp only [↓reduceIte]
      refine laid_tail ?_ ho hex hd g1 p1 nd1 hb1 hf1 hr1 hled ?_
      · intro b s₁ Q' q; cases b <;> first | exact wpAny_pure q | exact wpAny_rule q
      · intro h' sb r; dsimp only; exact wpAny_pure (hQ _ h' sb r)
/-- found.add(k) -/
theorem add {k : Str} {tk : Tok} {Q : Value → Shared → Prop} (R : SetS w s.heap a xs) (room : xs.length + 1 < scanBound)
    (hQ : ∀ h' t', Heap.SameBut a s.heap h' → SetS w h' a (ins xs k) → Q .none { s with heap := h', toks := t' }) :
    wpAny (model P w) A (call (.builtin "set.add") [.ref a, .str k tk]) Q E s := by
  have hS : s.heap.SetOf (strKind P w) a (fun k => decide (k ∈ xs)) xs.length := R.setOf
  refine wpAny_call_entry F.slot_set_add hS.typeIs F.entry_set_add ?_ (F.args_set_add_2 _ _)
  unfold Builtin.«set.add» Builtin.Frozenset.oneOther
  simp only [List.isEmpty_nil, bind_assoc]
  unfold Builtin.Frozenset.addrOf setAdd
  refine wpAny_bind (wpAny_pure ?_)
  try dsimp only
  refine wpAny_bind (wpAny_pure ?_)
  try dsimp only
  refine wpAny_bind ?_
  refine wpAny_holding ?_
  refine wpAny_bind ((strKind P w).pyHash (keyIs_str k tk) ?_)
  refine add_hashed (s := { s with toks := s.toks + 1 }) R room fun b h' sb r => ?_
  show wpAny _ _ (ret Value.none) _ _ _
  exact wpAny_pure ⟨_, rfl, hQ h' _ sb r⟩
end
theorem fresh {h : Heap} (w : World) : SetS w (h.push { cls := .type "set", dict := none, data := .set #[] 0 (.fresh 0 0 (!w.params.followText "set-order")) }) h.objs.size [] :=
  ⟨_, #[], 0, _, Heap.get?_push_size _ rfl, ⟨rfl, rfl, rfl⟩, rfl, (fun e he => by simp at he), (by simp), (by simp), (by decide), (by rfl), List.Pairwise.nil, by
    show _ ∨ (!w.params.followText "set-order") = true
    cases w.params.followText "set-order"
    · exact .inr rfl
    · exact .inl rfl⟩

/-! ### as tracked things -/
def SetSO (w : World) (a : Addr) (xs : List Str) : HO := .ext fun h => SetS w h a xs
theorem setSO_new {w : World} {P : Program} {H : Hp} {h : Heap} {a : Addr} {xs : List Str} (R : SetS w h a xs) : ObjOk P w H h a (SetSO w a xs) := by
  have ⟨o, _, _, _, ho, _⟩ := R
  exact ⟨R, ⟨o, ho⟩, fun h1 h2 p k => SetS.at p k⟩
section
variable {X : Cx}
theorem setSO_get {pins : List (Addr × Obj)} {σ : L2.St} {H : Hp} {s : Shared} {a : Addr} {xs : List Str} (I : Inv X pins σ H s) (ha : H a = some (SetSO X.w a xs)) : SetS X.w s.heap a xs := (I.hok a _ ha).1
/-- set.add of a text -/
theorem add_ok {pins : List (Addr × Obj)} {σ : L2.St} {H : Hp} {s : Shared} {E : Value → Shared → Prop} {D : Addr} {xs : List Str} {y : Str} {tk : Tok} {Q : Value → Shared → Prop} (I : Inv X pins σ H s) (hD : H D = some (SetSO X.w D xs)) (room : xs.length + 1 < scanBound)
    (h : ∀ s', Inv X pins σ (upd H D (SetSO X.w D (ins xs y))) s' → Q .none s') : wpAny (model X.prog X.w) X.A (call (.builtin "set.add") [.ref D, .str y tk]) Q E s := by
  have R := setSO_get I hD
  refine add R room fun h' t' sb new => ?_
  have he : ∃ u, h'.get? D = some u := by
    have ⟨o, _, _, _, ho, _⟩ := new
    exact ⟨o, ho⟩
  exact h _ (I.write (e := D) (t' := t') (by rw [hD]; trivial) (.inl rfl) (fun b u hb hu => (sb.2 b hb).trans hu) he (setSO_new new))
/-! ### in, not in -/
def rInS (w : World) (neg : Bool) : V → V → Hp → VK → Prop := fun x y H Q => ∃ k a xs, x = V.str k ∧ y = V.ref a ∧ H a = some (SetSO w a xs) ∧ Q (.bl (neg != decide (k ∈ xs))) H
end

/-! ### the comprehension -/
section
variable {X : Cx}
/-- {elt for target in iter if ..}, elt a text: D the new set -/
def tScS (w : World) (wi : TI) (g : TG) (tt : TT) (te : TE) (vs : List Nat) : TE := fun σ H Q => wi σ H fun J H1 => ∀ D, H1 D = none → ∃ W : Nat → Nat → Hp → Prop, (∃ m, W 0 m (upd H1 D (SetSO w D []))) ∧ ∀ i m H, W i m H →
  (J.stop i H ∧ Q (.ref D) H) ∨ (J.go i H ∧ ∃ Nx : Hp → Prop, (∀ H', Nx H' → ∃ m', m' < m ∧ W (i + 1) m' H') ∧ ∀ x H', J.yld i H x H' → g x (wipe σ vs) H' fun σ2 H2 => wipe σ2 vs = wipe σ vs ∧ tt σ2 H2 fun b H3 =>
    if b = true then te σ2 H3 fun y H4 => ∃ (c : Str) (xs : List Str), y = .str c ∧ H4 D = some (SetSO w D xs) ∧ xs.length + 1 < scanBound ∧ Nx (upd H4 D (SetSO w D (ins xs c))) else Nx H3)
theorem sc_run {pins : List (Addr × Obj)} {s : Shared} {σ : L2.St} {H : Hp} {Q : VK} {elt tg iter : Expr} {ifs : List Expr} {scope : Scope} {own : List (PySem.Str × Nat)} {pos pos' : Pos} {wi : TI} {g : TG} {tt : TT} {te : TE} {use : Option (Value → Sem Unit)} {Qf : Value → Shared → Prop}
    (hc : X.calm = true) (hN : X.N.Nodup) (I : Inv X pins σ H s) (hi : PI X tg iter wi) (ok : BlkOk X.N X.env.scope scope own)
    (hg : ∀ (s : Shared) (H : Hp) (C : Addr) (cl : List (PySem.Str × Addr)) (fp : List Addr), PG (X.blk s H scope (compEnvC scope cl C X.env) fp) tg g) (ht : ∀ (s : Shared) (H : Hp) (C : Addr) (cl : List (PySem.Str × Addr)) (fp : List Addr), PTs (X.blk s H scope (compEnvC scope cl C X.env) fp) ifs tt)
    (he : ∀ (s : Shared) (H : Hp) (C : Addr) (cl : List (PySem.Str × Addr)) (fp : List Addr), PE (X.blk s H scope (compEnvC scope cl C X.env) fp) elt te) (hs : ∀ x, foldedSetIterable iter X.env x = pure x)
    (h : tScS X.w wi g tt te (own.map (·.2)) σ H Q)
    (hRR : ∀ D C s' m H', Inv X pins σ H' s' → Q (.ref D) H' → s'.heap.Ns C m → FpOk X pins H' C → compPost (model X.prog X.w) X.A X.xe use Qf (.ref D) C (.ok .next) s') :
    wpAny (model X.prog X.w) X.A (comprehension (.SetComp elt [⟨tg, iter, ifs, 0⟩] scope pos) scope X.env pos' (newSet (.type "set")) false (eval iter X.env) use) Qf X.xe s := by
  have hfree : ∀ y ∈ scope.names, y.2 = .free → ∃ c, X.env.cells.lookup y.1 = some c := fun y hy e => (ok.free y hy e).elim (fun k => I.ok.has _ (.inl k)) fun k => I.ok.has _ (.inr k)
  refine wpAny_comprehension_free (use := use) rfl hs (closure_ok hfree) ok.kind (fun y hy e => by rw [ok.uniq y hy, e])
    (thn (hi.run pins s σ H _ I h) fun xv s1 hx => thn hx fun itv s2 h2 => ?_)
  obtain ⟨it, fp, tn, J, H2, e, I2, T, st2, f2, q⟩ := h2
  subst e
  refine PpSet.newSet_ok (newEnv_comp ?_)
  generalize hD : s2.heap.objs.size = D
  obtain ⟨W, ⟨m0, w0⟩, turn⟩ := q D (I2.hok.fresh (Nat.le_of_eq hD))
  generalize hs3 : ({ s2 with heap := s2.heap.push { cls := .type "set", dict := none, data := .set #[] 0 (.fresh 0 0 (!X.w.params.followText "set-order")) } } : Shared) = s3
  have I3 : Inv X pins σ (upd H2 D (SetSO X.w D [])) s3 := by
    rw [← hs3]
    refine I2.laid (t' := s2.toks) (fun b o e => Heap.get?_push_of_some _ e) (Nat.le_of_eq hD) ?_
    rw [← hD]
    exact setSO_new (fresh X.w)
  have h3 : s3.heap = s2.heap.push { cls := .type "set", dict := none, data := .set #[] 0 (.fresh 0 0 (!X.w.params.followText "set-order")) } := by rw [← hs3]
  have f3 : ∀ b ∈ fp, FpOk X pins (upd H2 D (SetSO X.w D [])) b ∧ b < s3.heap.objs.size := fun b hb => by
    obtain ⟨o, e, _⟩ := T.obj _ _ st2 b hb
    have hlt := Heap.lt_size e
    refine ⟨⟨?_, (f2 b hb).2⟩, by rw [h3, Heap.size_push]; exact Nat.lt_succ_of_lt hlt⟩
    rw [upd_ne (by rw [← hD]; exact Nat.ne_of_lt hlt)]
    exact (f2 b hb).1
  have st3 : tn 0 s3.heap := T.keep _ _ _ st2 fun b _ o e => by rw [h3]; exact Heap.get?_push_of_some _ e
  have I4 := block_start I3 ok hN f3
  have pg := hg s3 (upd H2 D (SetSO X.w D [])) s3.heap.objs.size (cellsFrom (s3.heap.objs.size + 1) scope.names (cloFrom X.env.cells scope.names [])) fp
  have pt := ht s3 (upd H2 D (SetSO X.w D [])) s3.heap.objs.size (cellsFrom (s3.heap.objs.size + 1) scope.names (cloFrom X.env.cells scope.names [])) fp
  have pe := he s3 (upd H2 D (SetSO X.w D [])) s3.heap.objs.size (cellsFrom (s3.heap.objs.size + 1) scope.names (cloFrom X.env.cells scope.names [])) fp
  show codeAny _ _ (.compStart (.SetComp elt [⟨tg, iter, ifs, 0⟩] scope pos) 0 (.ref it) (.ref D) (compEnvC scope (cellsFrom (s3.heap.objs.size + 1) scope.names (cloFrom X.env.cells scope.names [])) s3.heap.objs.size X.env)) (compPost (model X.prog X.w) X.A X.xe use Qf (.ref D) s3.heap.objs.size) { s3 with heap := pushCells (s3.heap.push { cls := .type "dict", data := .dict #[] }) scope.names }
  have nfp : ∀ b ∈ fp, (upd H2 D (SetSO X.w D [])) b = none := fun b hb => (f3 b hb).1.1
  generalize hce : compEnvC scope (cellsFrom (s3.heap.objs.size + 1) scope.names (cloFrom X.env.cells scope.names [])) s3.heap.objs.size X.env = ce at I4 pg pt pe ⊢
  have cL : ce.locals = s3.heap.objs.size := by subst hce; rfl
  generalize hH3 : upd H2 D (SetSO X.w D []) = H3 at I3 I4 pg pt pe w0 nfp f3
  generalize hs4 : ({ s3 with heap := pushCells (s3.heap.push { cls := .type "dict", data := .dict #[] }) scope.names } : Shared) = s4 at I4 ⊢
  have st4 : tn 0 s4.heap := T.keep _ _ _ st3 fun b _ o e => by rw [← hs4]; exact pushCells_keeps _ _ _ _ (Heap.get?_push_of_some _ e)
  have stat : ∀ {σ' : L2.St} {H' : Hp} {s' : Shared}, Inv (X.blk s3 H3 scope ce fp) [] σ' H' s' → (∀ b ∈ fp, H' b = none) → ∀ b ∈ fp, FpOk (X.blk s3 H3 scope ce fp) [] H' b := fun {σ' H' s'} I' hn b hb =>
    ⟨hn b hb, (I'.ok.exf b hb).1, I'.ok.exfs b hb, .inl hb, fun x c e => (I'.ok.exf b hb).2 x c e, fun p hp => absurd (show p ∈ ([] : List (Addr × Obj)) ++ [] from hp) (by simp)⟩
  have loop : codeAny (model X.prog X.w) X.A (.compLoop (.SetComp elt [⟨tg, iter, ifs, 0⟩] scope pos) 0 (.ref it) (.ref D) ce) (compPost (model X.prog X.w) X.A X.xe use Qf (.ref D) s3.heap.objs.size) s4 := by
    refine PpSet.compLoopS_any (fun n s' => ∃ i H', Inv (X.blk s3 H3 scope ce fp) [] (wipe σ (own.map (·.2))) H' s' ∧ tn i s'.heap ∧ (∀ b ∈ fp, H' b = none) ∧ W i n H') ?_ m0 ⟨0, H3, I4, st4, nfp, w0⟩
    rintro n s5 ⟨i, H5, I5, st5, n5, w5⟩
    rcases turn i n H5 w5 with ⟨stop, qq⟩ | ⟨go, Nx, hNx, step⟩
    · refine thnF (T.done (X.blk s3 H3 scope ce fp) rfl rfl rfl hc i [] s5 _ H5 (fun _ _ => False) I5 (stat I5 n5) st5 stop) fun r s6 ⟨hr, I6⟩ => ?_
      subst hr
      have I7 : Inv X pins σ H5 s6 := I3.call' (ch := fp) I6.os I6.base I6.hok I6.bare fun b hb => ⟨(f3 b hb).1.2.2.2.1, (f3 b hb).1.2.1, (f3 b hb).1.2.2.2.2.1, (f3 b hb).1.2.2.2.2.2⟩
      have nC : H5 s3.heap.objs.size = none := by rw [← cL]; exact I6.free
      obtain ⟨m, hn, _⟩ := I6.loc
      have hn : s6.heap.Ns ce.locals m := hn
      rw [cL] at hn
      exact hRR D s3.heap.objs.size s6 m H5 I7 qq hn (I3.fpOk (Nat.le_refl _) nC)
    · refine thnF (T.item (X.blk s3 H3 scope ce fp) rfl rfl rfl hc i [] s5 _ H5 (fun _ _ => False) I5 (stat I5 n5) st5 go) fun r s6 ⟨u, hr, h6⟩ => ?_
      subst hr
      refine thnF h6 fun _ s7 ⟨x, H7, I7, r7, y7, st7, n7⟩ => ?_
      have I7' := I7.pinned (stat I7 n7) (T.obj _ _ st7)
      refine thnF (pg.run _ s7 _ H7 x u _ I7' r7 (step x H7 y7)) fun _ s8 ⟨σ8, H8, I8, hw8, q8⟩ => ?_
      refine thnF (pt.run _ s8 σ8 H8 _ I8 q8) fun b s9 ⟨H9, I9, q9⟩ => ?_
      have fin : ∀ {s' : Shared} {H' : Hp}, Inv (X.blk s3 H3 scope ce fp) ([] ++ pinsAt fp s7.heap) σ8 H' s' → Nx H' → ∃ m, m < n ∧ ∃ i H', Inv (X.blk s3 H3 scope ce fp) [] (wipe σ (own.map (·.2))) H' s' ∧ tn i s'.heap ∧ (∀ b ∈ fp, H' b = none) ∧ W i m H' := fun {s' H'} I' nx => by
        obtain ⟨m', hm, w'⟩ := hNx H' nx
        have pin' : ∀ b ∈ fp, ∀ o, s7.heap.get? b = some o → s'.heap.get? b = some o ∧ H' b = none := fun b hb o e =>
          let z := I'.pin (b, o) (List.mem_append_right _ (List.mem_append_right _ (mem_pinsAt hb e)))
          ⟨z.1, z.2.1⟩
        refine ⟨m', hm, i + 1, H', (I'.unpinned (pins := [])).weak (by rw [← hw8, wipe_length]) (fun j v e => ?_), T.keep _ _ _ st7 fun b hb o e => (pin' b hb o e).1, fun b hb => ?_, w'⟩
        · rw [← hw8] at e
          exact (wipe_some e).1
        · obtain ⟨o, e, _⟩ := T.obj _ _ st7 b hb
          exact (pin' b hb o e).2
      cases b with
      | false =>
        simp only [Bool.false_eq_true, if_false] at q9 ⊢
        exact fin I9 q9
      | true =>
        simp only [if_true] at q9 ⊢
        refine thnF (pe.run _ s9 σ8 H9 _ I9 q9) fun z s10 ⟨yv, H10, I10, r10, c, xs, ey, hD10, hz10, nx⟩ => ?_
        subst ey
        obtain ⟨tk, rfl⟩ := r10
        exact add_ok (X := X.blk s3 H3 scope ce fp) I10 hD10 hz10 fun s11 I11 => fin I11 nx
  exact PpSet.codeAny_compStart_set loop (T.self X.A 0 _ _ _ st4 loop)
theorem pe_scS {elt tg iter : Expr} {ifs : List Expr} {scope : Scope} {own : List (PySem.Str × Nat)} {pos : Pos} {wi : TI} {g : TG} {tt : TT} {te : TE} (hc : X.calm = true) (hN : X.N.Nodup) (hi : PI X tg iter wi) (ok : BlkOk X.N X.env.scope scope own)
    (hg : ∀ (s : Shared) (H : Hp) (C : Addr) (cl : List (PySem.Str × Addr)) (fp : List Addr), PG (X.blk s H scope (compEnvC scope cl C X.env) fp) tg g) (ht : ∀ (s : Shared) (H : Hp) (C : Addr) (cl : List (PySem.Str × Addr)) (fp : List Addr), PTs (X.blk s H scope (compEnvC scope cl C X.env) fp) ifs tt)
    (he : ∀ (s : Shared) (H : Hp) (C : Addr) (cl : List (PySem.Str × Addr)) (fp : List Addr), PE (X.blk s H scope (compEnvC scope cl C X.env) fp) elt te) (hs : ∀ x, foldedSetIterable iter X.env x = pure x := by intro _; rfl) :
    PE X (.SetComp elt [⟨tg, iter, ifs, 0⟩] scope pos) (tScS X.w wi g tt te (own.map (·.2))) := by
  refine ⟨fun pins s σ H Q I h => ?_⟩
  rw [PpSet.eval_SetComp]
  refine sc_run hc hN I hi ok hg ht he hs h fun D C s' m H' I' q hn f => ⟨m, hn, fun h'' sb => ?_⟩
  obtain ⟨f0, f1, f2, f3, f4, f5⟩ := f
  exact ⟨.ref D, H', I'.turned (t' := s'.toks) (fun b o hb e => (sb.2 b hb).trans e) f0 f1 f3 f4 f5, rfl, q⟩
end
end FwS

set_option Elab.async false
set_option linter.all false
set_option maxRecDepth 100000
set_option maxHeartbeats 2000000
/-! FW, part S2: sets of texts asked, sorted, made of a list. -/
namespace FwS
open PySem PySem.Spec PyProof.Rows L2

/-! ### the order of texts -/
def leS (a b : Str) : Bool := decide (a.cps.toList ≤ b.cps.toList)
theorem leS_trans (a b c : Str) (h : leS a b = true) (k : leS b c = true) : leS a c = true := decide_eq_true (List.le_trans (of_decide_eq_true h) (of_decide_eq_true k))
theorem leS_total (a b : Str) : (leS a b || leS b a) = true := by
  unfold leS
  rw [Bool.or_eq_true, decide_eq_true_eq, decide_eq_true_eq]
  exact List.le_total _ _
theorem leS_anti {a b : Str} (h : leS a b = true) (k : leS b a = true) : a = b := by
  have e := List.le_antisymm (of_decide_eq_true h) (of_decide_eq_true k)
  cases a with
  | mk a =>
    cases b with
    | mk b =>
      have : a = b := by simpa using congrArg List.toArray e
      rw [this]
def sortS (xs : List Str) : List Str := xs.mergeSort leS
theorem rising_le : ∀ (r : List Str) (p : Str), risingS p r = true → ∀ y ∈ r, leS p y = true
  | [], _, _, y, hy => by simp at hy
  | x :: r, p, h, y, hy => by
    have h' : (!ltCps x.cps.toList p.cps.toList && risingS x r) = true := h
    rw [Bool.and_eq_true, Bool.not_eq_true', ltCps_eq, decide_eq_false_iff_not] at h'
    have px : leS p x = true := decide_eq_true (List.not_lt.mp h'.1)
    rcases List.mem_cons.mp hy with e | e
    · rw [e]; exact px
    · exact leS_trans _ _ _ px (rising_le r x h'.2 y e)
theorem rising_pw : ∀ (r : List Str) (p : Str), risingS p r = true → (p :: r).Pairwise (fun a b => leS a b = true)
  | [], _, _ => by simp
  | x :: r, p, h => by
    have h' : (!ltCps x.cps.toList p.cps.toList && risingS x r) = true := h
    exact List.pairwise_cons.mpr ⟨rising_le (x :: r) p h, rising_pw r x (Bool.and_eq_true_iff.mp h').2⟩
theorem sorted_pw : ∀ {r : List Str}, sortedS r = true → r.Pairwise (fun a b => leS a b = true)
  | [], _ => List.Pairwise.nil
  | x :: r, h => rising_pw r x h
theorem sortS_uniq {ys xs : List Str} (hp : ys.Perm xs) (hs : sortedS ys = true) : ys = sortS xs :=
  List.Perm.eq_of_pairwise (fun a b _ _ h k => leS_anti h k) (sorted_pw hs) (List.pairwise_mergeSort leS_trans leS_total xs) (hp.trans (List.mergeSort_perm xs leS).symm)
theorem sortS_perm (xs : List Str) : (sortS xs).Perm xs := List.mergeSort_perm xs leS
theorem sortS_length (xs : List Str) : (sortS xs).length = xs.length := (sortS_perm xs).length_eq

section
variable {P : Program} {w : World} {A : Around} {E : Value → Shared → Prop} {s : Shared} {a : Addr} {xs : List Str}
theorem strs_of : ∀ (l : List Value), (∀ v ∈ l, ∃ k tk, v = Value.str k tk) → StrsAre l (l.map fun v => keyS (0, v))
  | [], _ => .nil
  | v :: l, h => by
    obtain ⟨k, tk, rfl⟩ := h v List.mem_cons_self
    exact .cons k tk (strs_of l fun u hu => h u (List.mem_cons_of_mem _ hu))
theorem sorted_set {Q : Value → Shared → Prop} (R : SetS w s.heap a xs) (hh : A.handled = none) (h64 : xs.length < 64)
    (hQ : ∀ s' p (out : Array Value) (c : Nat), (∀ b o, s.heap.get? b = some o → s'.heap.get? b = some o) → s'.gens = s.gens → s'.os = s.os → s.heap.objs.size ≤ p →
      s'.heap.get? p = some (seqObj "list" out c) → StrsAre out.toList (sortS xs) → Q (.ref p) s') :
    wpAny (model P w) A (call (.builtin "sorted") [.ref a]) Q E s := by
  obtain ⟨o, es, ep, t, ho, hex, hd, g, pm0, nd, hb, hf, hr, hl⟩ := R
  refine Calls.call_function_entry kind_sorted plain_sorted entry_sorted (args_sorted1 _) ?_
  unfold Builtin.«sorted»
  refine wpAny_bind (m := checkCount "sorted" 1 1 _) (wpAny_pure ?_)
  refine wpAny_bind (collect_set (A := A.in1) hh ⟨o, ho, hex.1, hd⟩ hf hb hr hl fun s1 vs k1 hz g1 o1 pm => ?_)
  have hI : StrsAre vs (vs.map fun v => keyS (0, v)) := strs_of vs fun v hv => by
    obtain ⟨e, he, q⟩ := List.mem_map.mp (pm.mem_iff.mp hv)
    obtain ⟨k, tk, h1, _⟩ := g e he
    exact ⟨k, tk, by rw [← q]; exact h1⟩
  have pk : (vs.map fun v => keyS (0, v)).Perm xs := by
    have q := pm.map fun v => keyS (0, v)
    rw [List.map_map] at q
    exact q.trans pm0
  have hvl : vs.length = xs.length := by rw [← pk.length_eq, List.length_map]
  refine wpAny_bind (wpAny_newList ?_ (by rw [hvl, sizeLine_eq]; omega))
  have hoL : (s1.heap.push (seqObj "list" vs.toArray 0)).get? s1.heap.objs.size = some (seqObj "list" vs.toArray 0) := Heap.get?_push_size _ rfl
  refine wpAny_bind (wpAny_holding (wpAny_call_entry slot_list_sort ⟨_, hoL, rfl⟩ entry_list_sort
    (list_sort_treeK strKind_oneLt hoL hI.keysOf (fun v₁ v₂ rest e => keyKind_strs (by rw [← e]; exact hI)) (by rw [hvl]; exact h64) fun st' hp hs => ⟨_, rfl, ?_⟩) (args_list_sort _)))
  obtain ⟨ys, a1, a2, a3⟩ := sorted_out_str hI hp hs
  obtain ⟨c, hc⟩ := sortedHeap_at (vs := vs) (out := (arrOf st').map (·.2)) hoL
  have ey : ys = sortS xs := sortS_uniq (a2.trans pk) a3
  subst ey
  refine wpAny_pure ⟨_, rfl, hQ _ s1.heap.objs.size _ c (fun b u e => ?_) g1 o1 hz hc a1⟩
  have q := k1 b u e
  have hlt := Heap.lt_size q
  show (sortedHeap (s1.heap.push (seqObj "list" vs.toArray 0)) s1.heap.objs.size vs _).get? b = some u
  rw [sortedHeap_old (Nat.ne_of_lt hlt) (by rw [size_push']; exact Nat.lt_succ_of_lt hlt)]
  exact Heap.get?_push_of_some _ q
end
section
variable {X : Cx}
theorem op_inS : OpR X (compareOp .In) (rInS X.w false) := by
  intro pins s σ H x y v u Q I rx ry h
  obtain ⟨k, a, xs, rfl, rfl, ha, q⟩ := h
  obtain ⟨tk, rfl⟩ := rx
  cases ry
  refine wpAny_inSet_of (knd := strKind X.prog X.w) (keyIs_str k tk) rfl (setSO_get I ha).setOf ⟨.bl (decide (k ∈ xs)), H, I.tok _, rfl, ?_⟩
  simpa using q
theorem op_notInS : OpR X (compareOp .NotIn) (rInS X.w true) := by
  intro pins s σ H x y v u Q I rx ry h
  obtain ⟨k, a, xs, rfl, rfl, ha, q⟩ := h
  obtain ⟨tk, rfl⟩ := rx
  cases ry
  refine wpAny_notInSet_of (knd := strKind X.prog X.w) (keyIs_str k tk) rfl (setSO_get I ha).setOf ⟨.bl (!decide (k ∈ xs)), H, I.tok _, rfl, ?_⟩
  simpa using q
def rSortSet (w : World) : List V → Hp → VK → Prop := fun vs H Q => ∃ (a : Addr) (xs : List Str), vs = [V.ref a] ∧ H a = some (SetSO w a xs) ∧ xs.length < 64 ∧ ∀ p, H p = none → Q (.ref p) (upd H p (.lst ((sortS xs).map V.str)))
theorem cr_sortSet (hc : X.calm = true) : CallR X (.builtin "sorted") (rSortSet X.w) := by
  intro pins s σ H vs us Q I r h
  obtain ⟨a, xs, rfl, ha, h64, q⟩ := h
  rw [Vals.ref1 r]
  refine sorted_set (setSO_get I ha) (I.ok.hd hc) h64 fun s' p out c k g o hp hg hi => ?_
  have hlen : ((sortS xs).map V.str).length ≤ sizeLine := by rw [List.length_map, sortS_length, sizeLine_eq]; omega
  have hn : H p = none := I.hok.fresh hp
  have J : Inv X pins σ (upd H p (.lst ((sortS xs).map V.str))) { s with heap := s'.heap, gens := s'.gens, drawn := s'.drawn, toks := s'.toks } :=
    I.call (ch := []) (Un.laid k hp hn) (I.hok.laid k hp ⟨hlen, out.toList, c, vals_of_strs hi, hg⟩) (by rw [g]; exact I.bare) (fun _ z => nomatch z)
  have e : s' = { s with heap := s'.heap, gens := s'.gens, drawn := s'.drawn, toks := s'.toks } := by
    cases s'
    cases s
    cases o
    rfl
  rw [e]
  exact ⟨.ref p, _, J, rfl, q p hn⟩
end

/-! ### set(a list of texts) -/
/-- the members after the first i -/
def firstS (f : Nat → Str) (i : Nat) : List Str := ((List.range i).map f).foldl ins []
theorem firstS_succ (f : Nat → Str) (i : Nat) : firstS f (i + 1) = ins (firstS f i) (f i) := by
  unfold firstS
  rw [List.range_succ, List.map_append, List.foldl_append]; rfl
theorem firstS_len (f : Nat → Str) : ∀ i, (firstS f i).length ≤ i
  | 0 => Nat.le_refl _
  | i + 1 => by rw [firstS_succ]; have := ins_len (firstS f i) (f i); have := firstS_len f i; omega
def insAll (xs : List Str) : List Str := xs.foldl ins []
theorem firstS_all (xs : List Str) : firstS (fun i => xs.getD i Str.empty) xs.length = insAll xs := by
  unfold firstS insAll
  congr 1
  apply List.ext_getElem
  · simp
  · intro i h1 h2
    simp at h1
    simp [List.getD, h1]
section
variable {prog : Program} {w : World} {A : Around} {R : Result → Shared → Prop} {I : Addr} {fp wr : List Addr} {G : Array GenState → Array GenState → Prop} {n : Nat} {P : Nat → Value → Prop} {St : Nat → Shared → Prop}
theorem update_loop (W : WalksS prog w A.in1 I fp wr G n P St) (S : Addr) (hSf : S ∉ fp) (val : Nat → Str) (hval : ∀ i v, P i v → ∃ t, v = .str (val i) t) (hb : n + 1 < scanBound) :
    ∀ (k i : Nat) (s : Shared), n - i = k → i ≤ n → St i s → SetS w s.heap S (firstS val i) →
      (∀ s', Moved (S :: wr) G s s' → SetS w s'.heap S (firstS val n) → R (.ok (.ret .none)) s') →
      codeAny (model prog w) A (.builtin "set.update.loop" ⟨[.ref S, .ref I], []⟩) R s := by
  have hSw : S ∉ wr := fun h => hSf (W.sub _ h)
  have hsub : ∀ b ∈ wr, b ∈ S :: wr := fun b hb => List.mem_cons_of_mem _ hb
  intro k
  induction k with
  | zero =>
    intro i s hk hi hst hS hR
    have hin : i = n := by omega
    subst hin
    refine codeAny_builtin F.entry_set_update_loop ?_
    rw [Around.under_plainId F.plain_set_update_loop _]
    show wpAny _ A.in1 (pyNext (.ref I) >>= _) _ _ s
    refine wpAny_bind (W.done s _ _ hst fun s' hm => ?_)
    show wpAny _ A.in1 (ret Value.none) _ _ s'
    exact wpAny_pure (hR s' (hm.mono hsub) (hS.at fun o e => hm.heap S _ hSw e))
  | succ k ih =>
    intro i s hk hi hst hS hR
    have hlt : i < n := by omega
    refine codeAny_builtin F.entry_set_update_loop ?_
    rw [Around.under_plainId F.plain_set_update_loop _]
    show wpAny _ A.in1 (pyNext (.ref I) >>= _) _ _ s
    refine wpAny_bind (W.item i s _ _ hlt hst fun v s' hP hst' hm => ?_)
    obtain ⟨t, rfl⟩ := hval i v hP
    have hS' : SetS w s'.heap S (firstS val i) := hS.at fun o e => hm.heap S _ hSw e
    show wpAny _ A.in1 (holding [Value.str (val i) t] (setAdd S (.str (val i) t)) >>= _) _ _ s'
    refine wpAny_bind (wpAny_holding ?_)
    unfold setAdd
    refine wpAny_holding ?_
    refine wpAny_bind ((strKind prog w).pyHash (k := val i) (keyIs_str (val i) t) ?_)
    have hroom : (firstS val i).length + 1 < scanBound := by have := firstS_len val i; omega
    refine add_hashed (s := { s' with toks := s'.toks + 1 }) hS' hroom fun b h' hsb hS2 => ?_
    rw [← firstS_succ] at hS2
    refine wpAny_pure ⟨plainId_quiet F.plain_set_update_loop _, ih (i + 1) _ (by omega) hlt (W.frame _ s' _ _ hst' (Nat.le_succ _) fun b hb o e => ?_) hS2 fun s'' hm'' hS'' => ?_⟩
    · rw [hsb.2 b (fun h : b = S => hSf (by rw [← h]; exact hb))]; exact e
    · refine hR s'' (Moved.trans W.gtrans ((hm.mono hsub).then_heap (Nat.le_succ _) fun b o hb e => ?_) hm'') hS''
      rw [hsb.2 b (fun h : b = S => hb (by rw [h]; exact List.mem_cons_self))]; exact e
end
section
variable {prog : Program} {w : World} {A : Around} {E : Value → Shared → Prop} {s : Shared}
theorem setNew_led (a : Value) {Q₁ : Value → Shared → Prop}
    (h : Q₁ (.ref s.heap.objs.size) { s with heap := s.heap.push { cls := .type "set", dict := none, data := .set #[] 0 (.fresh 0 0 (!w.params.followText "set-order")) } }) :
    codeAny (model prog w) A (.call (.builtin "set.__new__") ⟨[.type "set", a], []⟩) (wants Q₁ E) s := code_set_led1 a h
theorem strsAt : ∀ {vs : List Value} {ns : List Str}, StrsAre vs ns → ∀ (i : Nat) (v : Value), vs[i]? = some v → ∃ t, v = .str (ns.getD i Str.empty) t
  | _, _, .nil, i, v, h => by simp at h
  | _, _, .cons n t hr, 0, v, h => by simp at h; exact ⟨t, by rw [← h]; rfl⟩
  | _, _, .cons n t hr, i + 1, v, h => by
    simp only [List.getElem?_cons_succ] at h
    obtain ⟨t', e⟩ := strsAt hr i v h
    exact ⟨t', by rw [e]; rfl⟩
set_option maxHeartbeats 3200000 in
theorem call_set_texts {l : Addr} {items : Array Value} {ns : List Str} {Q : Value → Shared → Prop} (hh : A.handled = none) (hl : s.heap.IsList l items) (hi : StrsAre items.toList ns) (hb : items.size + 1 < scanBound)
    (h : ∀ (h' : Heap) (tk : Nat), SetS w h' s.heap.objs.size (insAll ns) → (∀ b o, b < s.heap.objs.size → s.heap.get? b = some o → h'.get? b = some o) → Q (.ref s.heap.objs.size) { s with heap := h', toks := tk }) :
    wpAny (model prog w) A (call (.type "set") [.ref l]) Q E s := by
  have hns : ns.length = items.size := by rw [← StrsAre.length hi]; simp
  obtain ⟨c, tl, hmro⟩ := F.called_set.mro
  have hmade := F.called_set.made
  have hsub := F.called_set.sub
  refine wpAny_call (codeAny_of_tree ?_)
  show wpAny _ _ (callAny (.type "set") _) _ _ _
  refine wpAny_pure ⟨Code.quiet_builtin _ (by decide +kernel), codeAny_builtin F.entry_type_call ?_⟩
  rw [Around.under_plain (weight_type_call_type "set" [.ref l] []) rfl]
  have h1 := F.called_set.notType
  have h2 := F.called_set.canCreate
  have hct := F.typeCall_set_1 (.ref l)
  repeat (any_goals (first | assumption | wp_step))
  refine codeAny_mono (setNew_led (w := w) (.ref l) (E := E) (Q₁ := fun obj s₁ => obj = .ref s.heap.objs.size ∧ s₁ = { s with heap := s.heap.push { cls := .type "set", dict := none, data := .set #[] 0 (.fresh 0 0 (!w.params.followText "set-order")) } }) ⟨rfl, rfl⟩) fun r s₁ hr => ?_
  cases r with
  | error e => exact hr
  | ok fl =>
    cases fl with
    | ret obj =>
      obtain ⟨rfl, rfl⟩ := hr
      have hS : (s.heap.push { cls := .type "set", dict := none, data := .set #[] 0 (.fresh 0 0 (!w.params.followText "set-order")) }).get? s.heap.objs.size = some { cls := .type "set", dict := none, data := .set #[] 0 (.fresh 0 0 (!w.params.followText "set-order")) } := Heap.get?_push_size _ rfl
      have hT : Shared.TypeIs { s with heap := s.heap.push { cls := .type "set", dict := none, data := .set #[] 0 (.fresh 0 0 (!w.params.followText "set-order")) } } (.ref s.heap.objs.size) "set" := ⟨_, hS, rfl⟩
      have hli := F.called_set.init.lookup
      have hbi := F.called_set.init.bind (.ref s.heap.objs.size)
      repeat (any_goals (first | assumption | wp_step))
      refine codeAny_mono (codeAny_call_builtin (R := wants (fun r s₂ => r = .none ∧ ∃ h' tk, s₂ = { s with heap := h', toks := tk } ∧ SetS w h' s.heap.objs.size (insAll ns) ∧
          (∀ b o, b < s.heap.objs.size → s.heap.get? b = some o → h'.get? b = some o)) E) F.called_set.init.plain F.entry_set_init (check_set_init_1 hT ?_)) fun r₂ s₂ hr₂ => ?_
      · obtain ⟨ol, hol, hcl, nl, hdl⟩ := hl
        obtain ⟨ocls, odict, odata, oslots⟩ := ol
        simp only at hcl hdl
        subst hcl; subst hdl
        have hol' : (s.heap.push { cls := .type "set", dict := none, data := .set #[] 0 (.fresh 0 0 (!w.params.followText "set-order")) }).get? l = some { cls := .type "list", dict := odict, data := .seq items nl, slots := oslots } := Heap.get?_push_of_some _ hol
        have hsls := F.sub_list_set
        have hslf := F.sub_list_frozenset
        have hne : (Value.type "list" == Value.type "dict") = false := by decide
        have hl1 : (s.heap.push { cls := .type "set", dict := none, data := .set #[] 0 (.fresh 0 0 (!w.params.followText "set-order")) }).IsList l items := ⟨_, hol', rfl, nl, rfl⟩
        unfold Builtin.«set.__init__» noKeywords Builtin.Frozenset.updateFrom
        generalize hPI : pyIter = PI
        wp_walk
        subst hPI
        refine wpAny_pyIter_list hl1 ?_
        refine wpAny_bind (wpAny_runValue ?_)
        have hlS : l < s.heap.objs.size := Heap.lt_size hol
        have hh3 : A.in1.in1.in1.handled = none := by simp [hh]
        have hneI : l ≠ (s.heap.push { cls := .type "set", dict := none, data := .set #[] 0 (.fresh 0 0 (!w.params.followText "set-order")) }).objs.size := by
          rw [Heap.size_push]; exact Nat.ne_of_lt (Nat.lt_succ_of_lt hlS)
        have hSf : s.heap.objs.size ∉ [(s.heap.push { cls := .type "set", dict := none, data := .set #[] 0 (.fresh 0 0 (!w.params.followText "set-order")) }).objs.size, l] := by
          rw [Heap.size_push]; simp only [List.mem_cons, List.mem_singleton, List.not_mem_nil, or_false, not_or]
          exact ⟨Nat.ne_of_lt (Nat.lt_succ_self _), Nat.ne_of_gt hlS⟩
        have hval : ∀ (i : Nat) (v : Value), items[i]? = some v → ∃ t, v = .str ((fun i => ns.getD i Str.empty) i) t := fun i v hv =>
          strsAt hi i v (by rw [Array.getElem?_toList]; exact hv)
        refine update_loop ((Walks.list hh3 _ l hneI items).toS) s.heap.objs.size hSf (fun i => ns.getD i Str.empty) hval hb (items.size - 0) 0 _ (by omega) (Nat.zero_le _)
          ⟨⟨_, Heap.get?_push_size _ rfl, rfl, rfl⟩, (hl1.push _)⟩ ?hS0 ?hR
        case hS0 => exact (fresh w).at fun o e => Heap.get?_push_of_some _ e
        case hR =>
          intro s' hm hS'
          rw [← hns, firstS_all] at hS'
          obtain ⟨h', g', d', tk', os'⟩ := s'
          have eg : g' = s.gens := hm.gens
          have ed : d' = s.drawn := hm.drawn
          have eo : os' = s.os := hm.os
          subst eg; subst ed; subst eo
          refine wpAny_pure ?_
          show wpAny _ _ (ret Value.none) _ _ _
          refine wpAny_pure ⟨rfl, h', tk', rfl, hS', fun b o hb e => ?_⟩
          have hb1 : b ≠ s.heap.objs.size := Nat.ne_of_lt hb
          have hb2 : b ≠ (s.heap.push { cls := .type "set", dict := none, data := .set #[] 0 (.fresh 0 0 (!w.params.followText "set-order")) }).objs.size := by
            rw [Heap.size_push]; exact Nat.ne_of_lt (Nat.lt_succ_of_lt hb)
          exact hm.heap b o (by simp only [List.mem_cons, List.mem_singleton, List.not_mem_nil, or_false, not_or]; exact ⟨hb1, hb2⟩) (Heap.get?_push_of_some _ (Heap.get?_push_of_some _ e))
      · cases r₂ with
        | error e => exact hr₂
        | ok fl₂ =>
          cases fl₂ with
          | ret r =>
            obtain ⟨rfl, h', tk, rfl, hS', hk'⟩ := hr₂
            repeat (any_goals (first | assumption | wp_step))
            exact h _ _ hS' hk'
          | _ => exact hr₂.elim
    | _ => exact hr.elim
end
section
variable {X : Cx}
def rSetOf (K : PySem.W.Frag) (w : World) : List V → Hp → VK → Prop := fun vs H Q => ∃ (a : Addr) (xs : List Str), vs = [V.ref a] ∧ SqL K H a (xs.map V.str) ∧ xs.length + 1 < scanBound ∧ ∀ p, H p = none → Q (.ref p) (upd H p (SetSO w p (insAll xs)))
theorem cr_setOf (hc : X.calm = true) : CallR X (.type "set") (rSetOf X.K X.w) := by
  intro pins s σ H vs us Q I r h
  obtain ⟨a, xs, rfl, hs, hb, q⟩ := h
  rw [Vals.ref1 r]
  obtain ⟨its, rv, hl, _⟩ := I.list hs
  have hlen := rv.length
  rw [List.length_map] at hlen
  refine call_set_texts (w := X.w) (I.ok.hd hc) hl.isList (by simpa using rv.strs) (by rw [List.size_toArray, ← hlen]; exact hb) fun h' tk hS hk => ?_
  have hn : H s.heap.objs.size = none := I.hok.fresh (Nat.le_refl _)
  exact ⟨.ref s.heap.objs.size, upd H s.heap.objs.size (SetSO X.w s.heap.objs.size (insAll xs)), I.laid (t' := tk) (fun b o e => hk b o (Heap.lt_size e) e) (Nat.le_refl _) (setSO_new hS), rfl, q _ hn⟩
end
end FwS

set_option Elab.async false
set_option linter.all false
set_option maxRecDepth 100000
/-! FW, part A: data that stands still (D), the small store of what may change, how both lie in the abstract heap. -/
namespace FW
open PySem PySem.Spec PyProof.Rows L2

/-- what the relations hang on: the written part, the program, the world -/
structure KW where
  K : PySem.W.Frag
  P : Program
  w : World
abbrev _root_.L2.Cx.kw (X : L2.Cx) : KW := ⟨X.K, X.prog, X.w⟩
open Classical in
/-- where the class of this name stands -/
noncomputable def clsMap (K : PySem.W.Frag) (n : String) : Addr := if h : ∃ a : Addr, PySem.W.nsIn K mainGlobals (Str.ofString n) = some (some (.ref a)) then Classical.choose h else 0
theorem clsMap_of {K : PySem.W.Frag} {n : String} {a : Addr} (h : PySem.W.nsIn K mainGlobals (Str.ofString n) = some (some (.ref a))) : clsMap K n = a := by
  have hx : ∃ a : Addr, PySem.W.nsIn K mainGlobals (Str.ofString n) = some (some (.ref a)) := ⟨a, h⟩
  unfold clsMap
  rw [dif_pos hx]
  have e := h.symm.trans (Classical.choose_spec hx)
  injection e with e
  injection e with e
  injection e with e
  exact e.symm
noncomputable abbrev KW.cm (K : KW) (n : String) : Addr := clsMap K.K n
/-- an exception that was caught, kept -/
def ExV (C : Addr) (d : Option Addr) (a : Addr) : HO := .ext fun h => ∃ (oe : Obj) (vs : Array Value), h.get? a = some oe ∧ Zc (.ref C) d oe ∧ oe.data = .fields vs
/-- a value that no longer changes -/
inductive D where
  | non | bl (b : Bool) | int (i : Int) | str (x : Str) | ty (n : String) | ref (a : Addr)
  | lst (ds : List D) | scr (ds : List D) | tup (ds : List D) | ins (C : String) (ns : List Str) (ds : List D) | set (xs : List Str) | exc (C : String) (ns : List Str) (ds : List D) | cls (C : String)
/-- a value in a slot: data, or the cell k of the store -/
inductive SV where
  | sh (d : D) | cl (k : Nat)
/-- what a cell holds -/
inductive MO where
  | lst (xs : List SV) | ins (C : String) (ns : List Str) (xs : List SV) | fro (d : D) | dct (ks : List Key) (xs : List SV)
abbrev Store := List MO
abbrev Sl := List (Option SV)
structure Exn where
  cls : String
  ns : List Str
  ds : List D
inductive Ou (α : Type) where
  | ok (x : α) | er (x : Exn)
abbrev MM (α : Type) := Store → Option (Ou α × Store)

mutual
inductive Rep (K : KW) (F : Hp) : V → D → Prop
  | non : Rep K F .non .non
  | bl (b : Bool) : Rep K F (.bl b) (.bl b)
  | int (i : Int) : Rep K F (.int i) (.int i)
  | str (x : Str) : Rep K F (.str x) (.str x)
  | ty (n : String) : Rep K F (.ty n) (.ty n)
  | ref (a : Addr) : Rep K F (.ref a) (.ref a)
  | lst {a : Addr} {vs : List V} {ds : List D} (h : F a = some (.lst vs)) (r : RepL K F vs ds) : Rep K F (.ref a) (.lst ds)
  | scr {a : Addr} {vs : List V} {ds : List D} (h : SqL K.K F a vs) (r : RepL K F vs ds) : Rep K F (.ref a) (.scr ds)
  | tup {a : Addr} {vs : List V} {ds : List D} (h : F a = some (.tup vs)) (r : RepL K F vs ds) : Rep K F (.ref a) (.tup ds)
  | ins {a dx : Addr} {C : String} {ns : List Str} {vs : List V} {ds : List D} (h : F a = some (.ins (K.cm C) dx (ns.zip vs))) (hl : ns.length = vs.length) (r : RepL K F vs ds) : Rep K F (.ref a) (.ins C ns ds)
  | set {a : Addr} {xs : List Str} (h : F a = some (FwS.SetSO K.w a xs)) : Rep K F (.ref a) (.set xs)
  | cls (n : String) : Rep K F (.ref (K.cm n)) (.cls n)
  | exc0 {a : Addr} {C : String} (h : F a = some (ExV (K.cm C) none a)) : Rep K F (.ref a) (.exc C [] [])
  | exc1 {a dd : Addr} {C : String} {ns : List Str} {vs : List V} {ds : List D} (h : F a = some (ExV (K.cm C) (some dd) a)) (hx : F dd = some (.xd (ns.zip vs))) (hl : ns.length = vs.length) (r : RepL K F vs ds) : Rep K F (.ref a) (.exc C ns ds)
inductive RepL (K : KW) (F : Hp) : List V → List D → Prop
  | nil : RepL K F [] []
  | cons {v : V} {d : D} {vs : List V} {ds : List D} : Rep K F v d → RepL K F vs ds → RepL K F (v :: vs) (d :: ds)
end

section
variable {K : KW} {F F' : Hp}
mutual
theorem Rep.mono (s : Same F F') : ∀ {v : V} {d : D}, Rep K F v d → Rep K F' v d
  | _, _, .non => .non
  | _, _, .bl b => .bl b
  | _, _, .int b => .int b
  | _, _, .str b => .str b
  | _, _, .ty b => .ty b
  | _, _, .ref b => .ref b
  | _, _, .lst h r => .lst (s _ _ h) (RepL.mono s r)
  | _, _, .scr h r => .scr (s.seq h) (RepL.mono s r)
  | _, _, .tup h r => .tup (s _ _ h) (RepL.mono s r)
  | _, _, .ins h hl r => .ins (s _ _ h) hl (RepL.mono s r)
  | _, _, .set h => .set (s _ _ h)
  | _, _, .cls n => .cls n
  | _, _, .exc0 h => .exc0 (s _ _ h)
  | _, _, .exc1 h hx hl r => .exc1 (s _ _ h) (s _ _ hx) hl (RepL.mono s r)
theorem RepL.mono (s : Same F F') : ∀ {vs : List V} {ds : List D}, RepL K F vs ds → RepL K F' vs ds
  | _, _, .nil => .nil
  | _, _, .cons a r => .cons (Rep.mono s a) (RepL.mono s r)
end
theorem RepL.length : ∀ {vs : List V} {ds : List D}, RepL K F vs ds → vs.length = ds.length
  | _, _, .nil => rfl
  | _, _, .cons _ r => congrArg (· + 1) r.length
theorem RepL.append : ∀ {vs : List V} {ds : List D} {vs' : List V} {ds' : List D}, RepL K F vs ds → RepL K F vs' ds' → RepL K F (vs ++ vs') (ds ++ ds')
  | _, _, _, _, .nil, q => q
  | _, _, _, _, .cons a r, q => .cons a (r.append q)
theorem RepL.take : ∀ (n : Nat) {vs : List V} {ds : List D}, RepL K F vs ds → RepL K F (vs.take n) (ds.take n)
  | 0, _, _, _ => .nil
  | _ + 1, _, _, .nil => .nil
  | n + 1, _, _, .cons a r => .cons a (RepL.take n r)
theorem RepL.drop : ∀ (n : Nat) {vs : List V} {ds : List D}, RepL K F vs ds → RepL K F (vs.drop n) (ds.drop n)
  | 0, _, _, r => r
  | _ + 1, _, _, .nil => .nil
  | n + 1, _, _, .cons a r => RepL.drop n r
theorem RepL.rev : ∀ {vs : List V} {ds : List D}, RepL K F vs ds → RepL K F vs.reverse ds.reverse
  | _, _, .nil => .nil
  | _, _, .cons a r => by
    rw [List.reverse_cons, List.reverse_cons]
    exact r.rev.append (.cons a .nil)
theorem RepL.get : ∀ {vs : List V} {ds : List D} {i : Nat} {d : D}, RepL K F vs ds → ds[i]? = some d → ∃ v, vs[i]? = some v ∧ Rep K F v d
  | _, _, _, _, .nil, e => by simp at e
  | _, _, 0, _, .cons a r, e => by simp at e; subst e; exact ⟨_, rfl, a⟩
  | _, _, i + 1, d, .cons a r, e => by
    obtain ⟨v, h1, h2⟩ := RepL.get (i := i) (d := d) r (by simpa using e)
    exact ⟨v, by simpa using h1, h2⟩
theorem RepL.getV : ∀ {vs : List V} {ds : List D} {i : Nat} {v : V}, RepL K F vs ds → vs[i]? = some v → ∃ d, ds[i]? = some d ∧ Rep K F v d
  | _, _, _, _, .nil, e => by simp at e
  | _, _, 0, _, .cons a r, e => by simp at e; subst e; exact ⟨_, rfl, a⟩
  | _, _, i + 1, v, .cons a r, e => by
    obtain ⟨d, h1, h2⟩ := RepL.getV (i := i) (v := v) r (by simpa using e)
    exact ⟨d, by simpa using h1, h2⟩
theorem RepL.set {v : V} {d : D} (q : Rep K F v d) : ∀ (n : Nat) {vs : List V} {ds : List D}, RepL K F vs ds → RepL K F (vs.set n v) (ds.set n d)
  | _, _, _, .nil => .nil
  | 0, _, _, .cons a r => .cons q r
  | n + 1, _, _, .cons a r => .cons a (RepL.set q n r)
theorem RepL.ints : ∀ (ns : List Int), RepL K F (ns.map V.int) (ns.map D.int)
  | [] => .nil
  | n :: r => .cons (.int n) (RepL.ints r)
theorem RepL.strs : ∀ (ns : List Str), RepL K F (ns.map V.str) (ns.map D.str)
  | [] => .nil
  | n :: r => .cons (.str n) (RepL.strs r)
theorem RepL.of_ints : ∀ {ns : List Int} {vs : List V}, RepL K F vs (ns.map D.int) → vs = ns.map V.int
  | [], _, .nil => rfl
  | n :: r, _, .cons (.int _) q => by rw [RepL.of_ints q]; rfl
theorem RepL.of_strs : ∀ {ns : List Str} {vs : List V}, RepL K F vs (ns.map D.str) → vs = ns.map V.str
  | [], _, .nil => rfl
  | n :: r, _, .cons (.str _) q => by rw [RepL.of_strs q]; rfl
theorem Rep.int_of {v : V} {i : Int} (r : Rep K F v (.int i)) : v = .int i := by cases r; rfl
theorem Rep.str_of {v : V} {i : Str} (r : Rep K F v (.str i)) : v = .str i := by cases r; rfl
theorem Rep.bl_of {v : V} {i : Bool} (r : Rep K F v (.bl i)) : v = .bl i := by cases r; rfl
theorem Rep.non_of {v : V} (r : Rep K F v .non) : v = .non := by cases r; rfl
theorem Rep.ty_of {v : V} {n : String} (r : Rep K F v (.ty n)) : v = .ty n := by cases r; rfl
theorem Rep.ref_of {v : V} {a : Addr} (r : Rep K F v (.ref a)) : v = .ref a := by cases r; rfl
theorem Rep.cls_of {v : V} {n : String} (r : Rep K F v (.cls n)) : v = .ref (K.cm n) := by cases r; rfl
end

/-! ### the store -/
/-- where the cells stand, and what stands besides that nobody here touches -/
structure AS where
  l : List Addr
  g : Addr → Option HO
def AS.snoc (as : AS) (p : Addr) : AS := ⟨as.l ++ [p], as.g⟩
def AS.hide (as : AS) (p : Addr) (o : HO) : AS := ⟨as.l, fun a => if a = p then some o else as.g a⟩
def VRel (K : KW) (F : Hp) (as : AS) (v : V) : SV → Prop
  | .sh d => Rep K F v d
  | .cl k => ∃ a, as.l[k]? = some a ∧ v = .ref a
abbrev VsRel (K : KW) (F : Hp) (as : AS) : List V → List SV → Prop := Paired (VRel K F as)
def CRel (K : KW) (F : Hp) (as : AS) (H : Hp) (a : Addr) : MO → Prop
  | .lst xs => F a = none ∧ ∃ vs, H a = some (.lst vs) ∧ VsRel K F as vs xs
  | .ins C ns xs => F a = none ∧ ∃ dx vs, H a = some (.ins (K.cm C) dx (ns.zip vs)) ∧ ns.length = vs.length ∧ VsRel K F as vs xs
  | .fro d => Rep K F (.ref a) d
  | .dct ks xs => F a = none ∧ ∃ vs, H a = some (.dK (ks.zip vs)) ∧ ks.length = vs.length ∧ VsRel K F as vs xs
structure SRel (K : KW) (F : Hp) (as : AS) (S : Store) (H : Hp) : Prop where
  ff : Same F H
  nd : as.l.Nodup
  len : as.l.length = S.length
  there : ∀ a ∈ as.l, ∃ o, H a = some o
  cell : ∀ (k : Nat) (a : Addr) (m : MO), as.l[k]? = some a → S[k]? = some m → CRel K F as H a m
  gh : ∀ (a : Addr) (o : HO), as.g a = some o → H a = some o ∧ F a = none ∧ a ∉ as.l
structure Ext (F : Hp) (as : AS) (F' : Hp) (as' : AS) : Prop where
  same : Same F F'
  pre : ∃ t, as'.l = as.l ++ t
  gs : as'.g = as.g
theorem Ext.refl (F : Hp) (as : AS) : Ext F as F as := ⟨Same.refl F, ⟨[], (List.append_nil as.l).symm⟩, rfl⟩
theorem Ext.trans {F F1 F2 : Hp} {as as1 as2 : AS} (a : Ext F as F1 as1) (b : Ext F1 as1 F2 as2) : Ext F as F2 as2 := by
  obtain ⟨t, e⟩ := a.pre
  obtain ⟨u, e'⟩ := b.pre
  exact ⟨a.same.trans b.same, ⟨t ++ u, by rw [e', e, List.append_assoc]⟩, b.gs.trans a.gs⟩
section
variable {K : KW} {F F' H H' : Hp} {as as' : AS} {S S' : Store} {v : V} {d : D} {ds : List D} {i : Int} {b : Bool} {x : Str} {n C : String} {a : Addr} {ns : List Str}
theorem Ext.get (e : Ext F as F' as') {k : Nat} {a : Addr} (h : as.l[k]? = some a) : as'.l[k]? = some a := by
  obtain ⟨t, e⟩ := e.pre
  have : k < as.l.length := by
    rcases Nat.lt_or_ge k as.l.length with q | q
    · exact q
    · rw [List.getElem?_eq_none q] at h; cases h
  rw [e, List.getElem?_append_left this]; exact h
theorem VRel.mono (e : Ext F as F' as') {v : V} {x : SV} (r : VRel K F as v x) : VRel K F' as' v x := by
  cases x with
  | sh d => exact Rep.mono e.same r
  | cl k => obtain ⟨a, h, q⟩ := r; exact ⟨a, e.get h, q⟩
theorem VsRel.mono (e : Ext F as F' as') {vs : List V} {xs : List SV} (r : VsRel K F as vs xs) : VsRel K F' as' vs xs := Paired.mapP r fun _ _ q => VRel.mono e q
theorem VsRel.sh : ∀ {vs : List V} {ds : List D}, RepL K F vs ds → VsRel K F as vs (ds.map SV.sh)
  | _, _, .nil => .nil
  | _, _, .cons a r => .cons a (VsRel.sh r)
/-- all of them data -/
def allSh : List SV → Option (List D)
  | [] => some []
  | .sh d :: r => (allSh r).map (d :: ·)
  | .cl _ :: _ => none
theorem allSh_map : ∀ (ds : List D), allSh (ds.map SV.sh) = some ds
  | [] => rfl
  | d :: r => by show (allSh (r.map SV.sh)).map (d :: ·) = _; rw [allSh_map r]; rfl
theorem allSh_rep : ∀ {xs : List SV} {vs : List V} {ds : List D}, VsRel K F as vs xs → allSh xs = some ds → RepL K F vs ds
  | _, _, _, .nil, e => by cases e; exact .nil
  | .sh d :: r, _, ds, .cons a q, e => by
    have e' : (allSh r).map (d :: ·) = some ds := e
    cases h : allSh r with
    | none => rw [h] at e'; cases e'
    | some es => rw [h] at e'; cases e'; exact .cons a (allSh_rep q h)
  | .cl _ :: _, _, _, .cons _ _, e => by cases e
/-- the data that a value stands for now -/
def lookD (S : Store) : SV → Option D
  | .sh d => some d
  | .cl k => match S[k]? with
    | some (.lst xs) => (allSh xs).map D.lst
    | some (.ins C ns xs) => (allSh xs).map (D.ins C ns)
    | some (.fro d) => some d
    | some (.dct _ _) => none
    | none => none
/-- what may be read of a value, now: data that stands in F, or an own cell -/
inductive RdRel (K : KW) (F H : Hp) (v : V) (d : D) : Prop
  | fz (r : Rep K F v d)
  | lst {a : Addr} {vs : List V} {ds : List D} (hv : v = .ref a) (hd : d = .lst ds) (h : H a = some (.lst vs)) (r : RepL K F vs ds)
  | ins {a dx : Addr} {C : String} {ns : List Str} {vs : List V} {ds : List D} (hv : v = .ref a) (hd : d = .ins C ns ds) (h : H a = some (.ins (K.cm C) dx (ns.zip vs))) (hl : ns.length = vs.length) (r : RepL K F vs ds)
theorem SRel.get (s : SRel K F as S H) {k : Nat} {a : Addr} (h : as.l[k]? = some a) : ∃ m, S[k]? = some m ∧ CRel K F as H a m := by
  have hk : k < as.l.length := by
    rcases Nat.lt_or_ge k as.l.length with q | q
    · exact q
    · rw [List.getElem?_eq_none q] at h; cases h
  have hk' : k < S.length := by rw [← s.len]; exact hk
  exact ⟨S[k], List.getElem?_eq_getElem hk', s.cell k a _ h (List.getElem?_eq_getElem hk')⟩
theorem look_ok (s : SRel K F as S H) {v : V} {x : SV} {d : D} (r : VRel K F as v x) (e : lookD S x = some d) : RdRel K F H v d := by
  cases x with
  | sh d' => cases e; exact .fz r
  | cl k =>
    obtain ⟨a, h, rfl⟩ := r
    obtain ⟨m, hm, c⟩ := s.get h
    unfold lookD at e
    simp only [hm] at e
    cases m with
    | lst xs =>
      obtain ⟨_, vs, hv, rv⟩ := c
      cases q : allSh xs with
      | none => simp [q] at e
      | some ds =>
        simp [q] at e
        exact .lst rfl e.symm hv (allSh_rep rv q)
    | ins C ns xs =>
      obtain ⟨_, dx, vs, hv, hl, rv⟩ := c
      cases q : allSh xs with
      | none => simp [q] at e
      | some ds =>
        simp [q] at e
        exact .ins rfl e.symm hv hl (allSh_rep rv q)
    | fro d' => cases e; exact .fz c
    | dct ks xs => cases e
theorem RdRel.isLst (r : RdRel K F H v (.lst ds)) (s : Same F H) : ∃ a vs, v = .ref a ∧ H a = some (.lst vs) ∧ RepL K F vs ds := by
  cases r with
  | fz r => cases r with | lst h r => exact ⟨_, _, rfl, s _ _ h, r⟩
  | lst hv hd h r => cases hd; exact ⟨_, _, hv, h, r⟩
  | ins hv hd h hl r => cases hd
theorem RdRel.isIns (r : RdRel K F H v (.ins C ns ds)) (s : Same F H) : ∃ a dx vs, v = .ref a ∧ H a = some (.ins (K.cm C) dx (ns.zip vs)) ∧ ns.length = vs.length ∧ RepL K F vs ds := by
  cases r with
  | fz r => cases r with | ins h hl r => exact ⟨_, _, _, rfl, s _ _ h, hl, r⟩
  | lst hv hd h r => cases hd
  | ins hv hd h hl r => cases hd; exact ⟨_, _, _, hv, h, hl, r⟩
theorem RdRel.isTup (r : RdRel K F H v (.tup ds)) (s : Same F H) : ∃ a vs, v = .ref a ∧ H a = some (.tup vs) ∧ RepL K F vs ds := by
  cases r with
  | fz r => cases r with | tup h r => exact ⟨_, _, rfl, s _ _ h, r⟩
  | lst hv hd h r => cases hd
  | ins hv hd h hl r => cases hd
theorem RdRel.isScr (r : RdRel K F H v (.scr ds)) (s : Same F H) : ∃ a vs, v = .ref a ∧ SqL K.K H a vs ∧ RepL K F vs ds := by
  cases r with
  | fz r => cases r with | scr h r => exact ⟨_, _, rfl, s.seq h, r⟩
  | lst hv hd h r => cases hd
  | ins hv hd h hl r => cases hd
theorem RdRel.int (r : RdRel K F H v (.int i)) : v = .int i := by cases r with | fz r => exact r.int_of | lst _ hd _ _ => cases hd | ins _ hd _ _ _ => cases hd
theorem RdRel.str (r : RdRel K F H v (.str x)) : v = .str x := by cases r with | fz r => exact r.str_of | lst _ hd _ _ => cases hd | ins _ hd _ _ _ => cases hd
theorem RdRel.bl (r : RdRel K F H v (.bl b)) : v = .bl b := by cases r with | fz r => exact r.bl_of | lst _ hd _ _ => cases hd | ins _ hd _ _ _ => cases hd
theorem RdRel.non (r : RdRel K F H v .non) : v = .non := by cases r with | fz r => exact r.non_of | lst _ hd _ _ => cases hd | ins _ hd _ _ _ => cases hd
theorem RdRel.ty (r : RdRel K F H v (.ty n)) : v = .ty n := by cases r with | fz r => exact r.ty_of | lst _ hd _ _ => cases hd | ins _ hd _ _ _ => cases hd
theorem RdRel.ref (r : RdRel K F H v (.ref a)) : v = .ref a := by cases r with | fz r => exact r.ref_of | lst _ hd _ _ => cases hd | ins _ hd _ _ _ => cases hd
theorem RdRel.cls (r : RdRel K F H v (.cls C)) : v = .ref (K.cm C) := by cases r with | fz r => exact r.cls_of | lst _ hd _ _ => cases hd | ins _ hd _ _ _ => cases hd
theorem RdRel.mono {F' H' : Hp} (s : Same F F') (t : ∀ a o, v = .ref a → H a = some o → H' a = some o) (r : RdRel K F H v d) : RdRel K F' H' v d := by
  cases r with
  | fz r => exact .fz (r.mono s)
  | lst hv hd h r => exact .lst hv hd (t _ _ hv h) (r.mono s)
  | ins hv hd h hl r => exact .ins hv hd (t _ _ hv h) hl (r.mono s)

theorem SRel.fnone (s : SRel K F as S H) {p : Addr} (h : H p = none) : F p = none := s.ff.free h
theorem same_upd {p : Addr} {o : HO} (h : F p = none) : Same F (upd F p o) := fun b u e => by
  rw [upd_ne (ne_of_none e h)]; exact e
theorem same_updH {p : Addr} {o : HO} (s : Same F H) (h : F p = none) : Same F (upd H p o) := fun b u e => by
  rw [upd_ne (ne_of_none e h)]; exact s _ _ e
theorem same_upd2 {p : Addr} {o : HO} (s : Same F H) : Same (upd F p o) (upd H p o) := fun b u e => by
  by_cases hb : b = p
  · subst hb; rw [upd_same] at e ⊢; exact e
  · rw [upd_ne hb] at e ⊢; exact s _ _ e
/-- a new object that stands still -/
theorem SRel.newF (s : SRel K F as S H) {p : Addr} {o : HO} (hp : H p = none) : SRel K (upd F p o) as S (upd H p o) := by
  have fp := s.fnone hp
  have na : ∀ a ∈ as.l, a ≠ p := fun a ha e => by obtain ⟨u, q⟩ := s.there a ha; rw [e, hp] at q; cases q
  refine ⟨same_upd2 s.ff, s.nd, s.len, fun a ha => ?_, fun k a m h1 h2 => ?_, fun a u e => ?_⟩
  rotate_left 2
  · obtain ⟨g1, g2, g3⟩ := s.gh a u e
    have ne := ne_of_none g1 hp
    exact ⟨by rw [upd_ne ne]; exact g1, by rw [upd_ne ne]; exact g2, g3⟩
  · obtain ⟨u, q⟩ := s.there a ha
    exact ⟨u, by rw [upd_ne (na a ha)]; exact q⟩
  · have hx : Ext F as (upd F p o) as := ⟨same_upd fp, ⟨[], (List.append_nil as.l).symm⟩, rfl⟩
    have c := s.cell k a m h1 h2
    have nea := na a (List.mem_of_getElem? h1)
    cases m with
    | lst xs => obtain ⟨f, vs, e, r⟩ := c; exact ⟨by rw [upd_ne nea]; exact f, vs, by rw [upd_ne nea]; exact e, r.mono hx⟩
    | ins C ns xs => obtain ⟨f, dx, vs, e, hl, r⟩ := c; exact ⟨by rw [upd_ne nea]; exact f, dx, vs, by rw [upd_ne nea]; exact e, hl, r.mono hx⟩
    | dct ks xs => obtain ⟨f, vs, e, hl, r⟩ := c; exact ⟨by rw [upd_ne nea]; exact f, vs, by rw [upd_ne nea]; exact e, hl, r.mono hx⟩
    | fro d => exact Rep.mono hx.same c
theorem Ext.newF (s : SRel K F as S H) {p : Addr} {o : HO} (hp : H p = none) : Ext F as (upd F p o) as := ⟨same_upd (s.fnone hp), ⟨[], (List.append_nil as.l).symm⟩, rfl⟩
/-- a new thing that is not told of here (an instance's own dict) -/
theorem SRel.more (s : SRel K F as S H) {p : Addr} {o : HO} (hp : H p = none) : SRel K F as S (upd H p o) := by
  have fp := s.fnone hp
  have na : ∀ a ∈ as.l, a ≠ p := fun a ha e => by obtain ⟨u, q⟩ := s.there a ha; rw [e, hp] at q; cases q
  refine ⟨same_updH s.ff fp, s.nd, s.len, fun a ha => ?_, fun k a m h1 h2 => ?_, fun a u e => ?_⟩
  rotate_left 2
  · obtain ⟨g1, g2, g3⟩ := s.gh a u e
    exact ⟨by rw [upd_ne (ne_of_none g1 hp)]; exact g1, g2, g3⟩
  · obtain ⟨u, q⟩ := s.there a ha
    exact ⟨u, by rw [upd_ne (na a ha)]; exact q⟩
  · have c := s.cell k a m h1 h2
    have nea := na a (List.mem_of_getElem? h1)
    cases m with
    | lst xs => obtain ⟨f, vs, e, r⟩ := c; exact ⟨f, vs, by rw [upd_ne nea]; exact e, r⟩
    | ins C ns xs => obtain ⟨f, dx, vs, e, hl, r⟩ := c; exact ⟨f, dx, vs, by rw [upd_ne nea]; exact e, hl, r⟩
    | dct ks xs => obtain ⟨f, vs, e, hl, r⟩ := c; exact ⟨f, vs, by rw [upd_ne nea]; exact e, hl, r⟩
    | fro d => exact c
/-- a new cell -/
theorem SRel.newC (s : SRel K F as S H) {p : Addr} {o : HO} {m : MO} (hp : H p = none) (hc : CRel K F (as.snoc p) (upd H p o) p m) : SRel K F (as.snoc p) (S ++ [m]) (upd H p o) := by
  have fp := s.fnone hp
  have na : ∀ a ∈ as.l, a ≠ p := fun a ha e => by obtain ⟨u, q⟩ := s.there a ha; rw [e, hp] at q; cases q
  have hx : Ext F as F (as.snoc p) := ⟨Same.refl F, ⟨[p], rfl⟩, rfl⟩
  refine ⟨same_updH s.ff fp, ?_, ?_, fun a ha => ?_, fun k a m' h1 h2 => ?_, fun a u e => ?_⟩
  rotate_right
  · obtain ⟨g1, g2, g3⟩ := s.gh a u e
    refine ⟨by rw [upd_ne (ne_of_none g1 hp)]; exact g1, g2, fun hm => ?_⟩
    rcases List.mem_append.mp hm with q | q
    · exact g3 q
    · exact ne_of_none g1 hp (by simpa using q)
  · show (as.l ++ [p]).Nodup
    rw [List.nodup_append]
    exact ⟨s.nd, by simp, fun a ha b hb => by simp at hb; subst hb; exact na a ha⟩
  · show (as.l ++ [p]).length = _
    simp [s.len]
  · rcases List.mem_append.mp ha with q | q
    · obtain ⟨u, e⟩ := s.there a q
      exact ⟨u, by rw [upd_ne (na a q)]; exact e⟩
    · simp at q; subst q; exact ⟨o, upd_same⟩
  · have h1 : (as.l ++ [p])[k]? = some a := h1
    by_cases hk : k < as.l.length
    · rw [List.getElem?_append_left hk] at h1
      rw [List.getElem?_append_left (by rw [← s.len]; exact hk)] at h2
      have c := s.cell k a m' h1 h2
      have nea := na a (List.mem_of_getElem? h1)
      cases m' with
      | lst xs => obtain ⟨f, vs, e, r⟩ := c; exact ⟨f, vs, by rw [upd_ne nea]; exact e, r.mono hx⟩
      | ins C ns xs => obtain ⟨f, dx, vs, e, hl, r⟩ := c; exact ⟨f, dx, vs, by rw [upd_ne nea]; exact e, hl, r.mono hx⟩
      | dct ks xs => obtain ⟨f, vs, e, hl, r⟩ := c; exact ⟨f, vs, by rw [upd_ne nea]; exact e, hl, r.mono hx⟩
      | fro d => exact c
    · have hk' : as.l.length ≤ k := Nat.le_of_not_lt hk
      rw [List.getElem?_append_right hk'] at h1
      rw [List.getElem?_append_right (by rw [← s.len]; exact hk')] at h2
      rw [s.len] at h1
      cases e : k - S.length with
      | zero => rw [e] at h1 h2; simp at h1 h2; subst h1; subst h2; exact hc
      | succ n => rw [e] at h1; simp at h1
theorem Ext.newC (p : Addr) : Ext F as F (as.snoc p) := ⟨Same.refl F, ⟨[p], rfl⟩, rfl⟩
theorem get_snoc (p : Addr) : (as.snoc p).l[as.l.length]? = some p := by show (as.l ++ [p])[_]? = _; simp
theorem SRel.get_new (s : SRel K F as S H) (p : Addr) : (as.snoc p).l[S.length]? = some p := by rw [← s.len]; exact get_snoc p
/-- a cell is changed -/
theorem SRel.write (s : SRel K F as S H) {k : Nat} {a : Addr} {o : HO} {m : MO} (ha : as.l[k]? = some a) (fa : F a = none) (hc : CRel K F as (upd H a o) a m) : SRel K F as (S.set k m) (upd H a o) := by
  refine ⟨same_updH s.ff fa, s.nd, by rw [List.length_set]; exact s.len, fun b hb => ?_, fun j b m' h1 h2 => ?_, fun b u e => ?_⟩
  rotate_right
  · obtain ⟨g1, g2, g3⟩ := s.gh b u e
    have ne : b ≠ a := fun z => g3 (by rw [z]; exact List.mem_of_getElem? ha)
    exact ⟨by rw [upd_ne ne]; exact g1, g2, g3⟩
  · by_cases e : b = a
    · subst e; exact ⟨o, upd_same⟩
    · obtain ⟨u, q⟩ := s.there b hb
      exact ⟨u, by rw [upd_ne e]; exact q⟩
  · by_cases e : j = k
    · subst e
      rw [ha] at h1; cases h1
      have hk : j < S.length := by
        rw [← s.len]
        rcases Nat.lt_or_ge j as.l.length with q | q
        · exact q
        · rw [List.getElem?_eq_none q] at ha; cases ha
      rw [List.getElem?_set_self hk] at h2; cases h2
      exact hc
    · rw [List.getElem?_set_ne (Ne.symm e)] at h2
      have c := s.cell j b m' h1 h2
      have neb : b ≠ a := fun q => by
        subst q
        have hj : j < as.l.length := by
          rcases Nat.lt_or_ge j as.l.length with q | q
          · exact q
          · rw [List.getElem?_eq_none q] at h1; cases h1
        exact e ((List.getElem?_inj hj s.nd).mp (h1.trans ha.symm))
      cases m' with
      | lst xs => obtain ⟨f, vs, q, r⟩ := c; exact ⟨f, vs, by rw [upd_ne neb]; exact q, r⟩
      | ins C ns xs => obtain ⟨f, dx, vs, q, hl, r⟩ := c; exact ⟨f, dx, vs, by rw [upd_ne neb]; exact q, hl, r⟩
      | dct ks xs => obtain ⟨f, vs, q, hl, r⟩ := c; exact ⟨f, vs, by rw [upd_ne neb]; exact q, hl, r⟩
      | fro d => exact c
/-- a cell's thing stands still from now on -/
theorem SRel.freeze (s : SRel K F as S H) {k : Nat} {a : Addr} {o : HO} {d : D} (ha : as.l[k]? = some a) (fa : F a = none) (hH : H a = some o) (hd : Rep K (upd F a o) (.ref a) d) : SRel K (upd F a o) as (S.set k (.fro d)) H ∧ Ext F as (upd F a o) as := by
  have hs : Same F (upd F a o) := same_upd fa
  have hx : Ext F as (upd F a o) as := ⟨hs, ⟨[], (List.append_nil as.l).symm⟩, rfl⟩
  refine ⟨⟨fun b u e => ?_, s.nd, by rw [List.length_set]; exact s.len, s.there, fun j b m' h1 h2 => ?_, fun b u e => ?_⟩, hx⟩
  rotate_right
  · obtain ⟨g1, g2, g3⟩ := s.gh b u e
    have ne : b ≠ a := fun z => g3 (by rw [z]; exact List.mem_of_getElem? ha)
    exact ⟨g1, by rw [upd_ne ne]; exact g2, g3⟩
  · by_cases hb : b = a
    · subst hb; rw [upd_same] at e; cases e; exact hH
    · rw [upd_ne hb] at e; exact s.ff _ _ e
  · by_cases e : j = k
    · subst e
      rw [ha] at h1; cases h1
      have hk : j < S.length := by
        rw [← s.len]
        rcases Nat.lt_or_ge j as.l.length with q | q
        · exact q
        · rw [List.getElem?_eq_none q] at ha; cases ha
      rw [List.getElem?_set_self hk] at h2; cases h2
      exact hd
    · rw [List.getElem?_set_ne (Ne.symm e)] at h2
      have c := s.cell j b m' h1 h2
      have neb : b ≠ a := fun q => by
        subst q
        have hj : j < as.l.length := by
          rcases Nat.lt_or_ge j as.l.length with q | q
          · exact q
          · rw [List.getElem?_eq_none q] at h1; cases h1
        exact e ((List.getElem?_inj hj s.nd).mp (h1.trans ha.symm))
      cases m' with
      | lst xs => obtain ⟨f, vs, q, r⟩ := c; exact ⟨by rw [upd_ne neb]; exact f, vs, q, r.mono hx⟩
      | ins C ns xs => obtain ⟨f, dx, vs, q, hl, r⟩ := c; exact ⟨by rw [upd_ne neb]; exact f, dx, vs, q, hl, r.mono hx⟩
      | dct ks xs => obtain ⟨f, vs, q, hl, r⟩ := c; exact ⟨by rw [upd_ne neb]; exact f, vs, q, hl, r.mono hx⟩
      | fro d => exact Rep.mono hs c
end

/-! ### the small machine -/
def ret {α : Type} (x : α) : MM α := fun S => some (.ok x, S)
def MM.bind {α β : Type} (f : MM α) (g : α → MM β) : MM β := fun S =>
  match f S with
  | some (.ok x, S') => g x S'
  | some (.er x, S') => some (.er x, S')
  | none => none
def stuck {α : Type} : MM α := fun _ => none
def ofO {α : Type} (o : Option α) : MM α := fun S => o.map fun x => (.ok x, S)
theorem bindE {α β : Type} {f : MM α} {g : α → MM β} {S : Store} {r : Ou β × Store} (h : MM.bind f g S = some r) :
    (∃ x S', f S = some (.ok x, S') ∧ g x S' = some r) ∨ ∃ x S', f S = some (.er x, S') ∧ r = (.er x, S') := by
  unfold MM.bind at h
  split at h
  · exact .inl ⟨_, _, by assumption, h⟩
  · cases h; exact .inr ⟨_, _, by assumption, rfl⟩
  · cases h
/-- a value is made data -/
def frz (x : SV) : MM D := fun S =>
  match x with
  | .sh d => some (.ok d, S)
  | .cl k => match S[k]? with
    | some (.lst xs) => (allSh xs).map fun ds => (.ok (.lst ds), S.set k (.fro (.lst ds)))
    | some (.ins C ns xs) => (allSh xs).map fun ds => (.ok (.ins C ns ds), S.set k (.fro (.ins C ns ds)))
    | some (.fro d) => some (.ok d, S)
    | some (.dct _ _) => none
    | none => none
section
variable {K : KW} {F H : Hp} {as : AS} {S S' : Store}
theorem frz_ok (s : SRel K F as S H) {v : V} {x : SV} {o : Ou D} (r : VRel K F as v x) (e : frz x S = some (o, S')) : ∃ d F', o = .ok d ∧ Ext F as F' as ∧ SRel K F' as S' H ∧ Rep K F' v d := by
  cases x with
  | sh d => cases e; exact ⟨d, F, rfl, Ext.refl F as, s, r⟩
  | cl k =>
    obtain ⟨a, h, rfl⟩ := r
    obtain ⟨m, hm, c⟩ := s.get h
    unfold frz at e
    simp only [hm] at e
    cases m with
    | lst xs =>
      obtain ⟨f, vs, hv, rv⟩ := c
      cases q : allSh xs with
      | none => simp [q] at e
      | some ds =>
        simp [q] at e
        obtain ⟨rfl, rfl⟩ := e
        have rd := allSh_rep rv q
        have hd : Rep K (upd F a (.lst vs)) (.ref a) (.lst ds) := .lst upd_same (rd.mono (same_upd f))
        obtain ⟨s', x'⟩ := s.freeze h f hv hd
        exact ⟨_, _, rfl, x', s', hd⟩
    | ins C ns xs =>
      obtain ⟨f, dx, vs, hv, hl, rv⟩ := c
      cases q : allSh xs with
      | none => simp [q] at e
      | some ds =>
        simp [q] at e
        obtain ⟨rfl, rfl⟩ := e
        have rd := allSh_rep rv q
        have hd : Rep K (upd F a (.ins (K.cm C) dx (ns.zip vs))) (.ref a) (.ins C ns ds) := .ins upd_same hl (rd.mono (same_upd f))
        obtain ⟨s', x'⟩ := s.freeze h f hv hd
        exact ⟨_, _, rfl, x', s', hd⟩
    | fro d => cases e; exact ⟨d, F, rfl, Ext.refl F as, s, c⟩
    | dct ks xs => cases e
end
end FW

set_option Elab.async false
set_option linter.all false
set_option maxRecDepth 100000
/-! FW, part B: expressions as functions on slots and store. -/
namespace FW
open PySem PySem.Spec PyProof.Rows L2

def XRel (K : KW) (F H : Hp) (x : Exn) (c : Value) (d : Option Addr) : Prop :=
  c = .ref (K.cm x.cls) ∧ ((x.ns = [] ∧ x.ds = [] ∧ d = none) ∨ ∃ dd vs, d = some dd ∧ F dd = some (.xd (x.ns.zip vs)) ∧ x.ns.length = vs.length ∧ RepL K F vs x.ds)
/-- what is wanted behind an outcome -/
def Cont {α : Type} (K : KW) (E : XK) (F : Hp) (as : AS) (S' : Store) (o : Ou α) (G : α → Hp → AS → Hp → Prop) : Prop :=
  ∀ F' as' H', Ext F as F' as' → SRel K F' as' S' H' → match o with
    | .ok x => G x F' as' H'
    | .er x => ∀ c d, XRel K F' H' x c d → E c d H'
theorem Cont.step {α : Type} {K : KW} {E : XK} {F F1 : Hp} {as as1 : AS} {S' : Store} {o : Ou α} {G : α → Hp → AS → Hp → Prop} (c : Cont K E F as S' o G) (e : Ext F as F1 as1) : Cont K E F1 as1 S' o G :=
  fun F' as' H' x s => c F' as' H' (e.trans x) s
theorem Cont.ok {α : Type} {K : KW} {E : XK} {F F1 H1 : Hp} {as as1 : AS} {S' : Store} {x : α} {G : α → Hp → AS → Hp → Prop} (c : Cont K E F as S' (.ok x) G) (e : Ext F as F1 as1) (s : SRel K F1 as1 S' H1) : G x F1 as1 H1 := c _ _ _ e s
structure SlRel (K : KW) (F : Hp) (as : AS) (σ : L2.St) (ss : Sl) : Prop where
  at_ : ∀ (i : Nat) (x : SV), ss[i]? = some (some x) → ∃ v, σ[i]? = some (some v) ∧ VRel K F as v x
  len : σ.length = ss.length
section
variable {K : KW} {F F' H : Hp} {as as' : AS} {σ : L2.St} {ss : Sl}
theorem SlRel.mono (r : SlRel K F as σ ss) (e : Ext F as F' as') : SlRel K F' as' σ ss := ⟨fun i x h => let ⟨v, a, b⟩ := r.at_ i x h; ⟨v, a, b.mono e⟩, r.len⟩
theorem SlRel.set (r : SlRel K F as σ ss) (i : Nat) {v : V} {x : SV} (q : VRel K F as v x) : SlRel K F as (σ.set i (some v)) (ss.set i (some x)) := by
  refine ⟨fun j y h => ?_, by simp [r.len]⟩
  by_cases e : j = i
  · subst e
    have hj : j < ss.length := by
      rcases Nat.lt_or_ge j ss.length with q | q
      · exact q
      · rw [List.getElem?_eq_none (by simpa using q)] at h; cases h
    rw [List.getElem?_set_self hj] at h
    cases h
    exact ⟨v, List.getElem?_set_self (by rw [r.len]; exact hj), q⟩
  · rw [List.getElem?_set_ne (Ne.symm e)] at h
    obtain ⟨w, a, b⟩ := r.at_ j y h
    exact ⟨w, by rw [List.getElem?_set_ne (Ne.symm e)]; exact a, b⟩
theorem SlRel.unset (r : SlRel K F as σ ss) (i : Nat) (o : Option V) : SlRel K F as (σ.set i o) (ss.set i none) := by
  refine ⟨fun j y h => ?_, by simp [r.len]⟩
  by_cases e : j = i
  · subst e
    have hj : j < ss.length := by
      rcases Nat.lt_or_ge j ss.length with q | q
      · exact q
      · rw [List.getElem?_eq_none (by simpa using q)] at h; cases h
    rw [List.getElem?_set_self hj] at h
    cases h
  · rw [List.getElem?_set_ne (Ne.symm e)] at h
    obtain ⟨w, a, b⟩ := r.at_ j y h
    exact ⟨w, by rw [List.getElem?_set_ne (Ne.symm e)]; exact a, b⟩
end

/-! ### judgements -/
/-- the context lets through what W takes -/
def XOk (X : Cx) (W : WX) : Prop := ∀ σ, PassesAt (L2.CX X.prog X.w) X σ (WE W σ)
structure FE (X : Cx) (W : WX) (e : Expr) (f : Sl → MM SV) : Prop where
  ex : ∃ te, PE X e te ∧ ∀ (σ : L2.St) (ss : Sl) (F : Hp) (as : AS) (S : Store) (H : Hp) (Q : VK) (o : Ou SV) (S' : Store), SlRel X.kw F as σ ss → SRel X.kw F as S H → f ss S = some (o, S') →
    Cont X.kw (WE W σ) F as S' o (fun x F' as' H' => ∀ v, VRel X.kw F' as' v x → Q v H') → te σ H Q
structure FT (X : Cx) (W : WX) (e : Expr) (f : Sl → MM Bool) : Prop where
  ex : ∃ te, PT X e te ∧ ∀ (σ : L2.St) (ss : Sl) (F : Hp) (as : AS) (S : Store) (H : Hp) (Q : Bool → Hp → Prop) (o : Ou Bool) (S' : Store), SlRel X.kw F as σ ss → SRel X.kw F as S H → f ss S = some (o, S') →
    Cont X.kw (WE W σ) F as S' o (fun x _ _ H' => Q x H') → te σ H Q
structure FWt (X : Cx) (W : WX) (e : Expr) (f : Sl → MM Bool) : Prop where
  ex : ∃ te, PW X e te ∧ ∀ (σ : L2.St) (ss : Sl) (F : Hp) (as : AS) (S : Store) (H : Hp) (Q : Bool → Hp → Prop) (o : Ou Bool) (S' : Store), SlRel X.kw F as σ ss → SRel X.kw F as S H → f ss S = some (o, S') →
    Cont X.kw (WE W σ) F as S' o (fun x _ _ H' => Q x H') → te σ H Q
structure FA (X : Cx) (W : WX) (es : List Expr) (f : Sl → MM (List SV)) : Prop where
  ex : ∃ te, PA X es te ∧ ∀ (σ : L2.St) (ss : Sl) (F : Hp) (as : AS) (S : Store) (H : Hp) (Q : List V → Hp → Prop) (o : Ou (List SV)) (S' : Store), SlRel X.kw F as σ ss → SRel X.kw F as S H → f ss S = some (o, S') →
    Cont X.kw (WE W σ) F as S' o (fun x F' as' H' => ∀ vs, VsRel X.kw F' as' vs x → Q vs H') → te σ H Q

/-- one step of a reading: its part, then what follows -/
theorem step {α β γ : Type} {K : KW} {E : XK} {F : Hp} {as : AS} {S : Store} {f : MM α} {g : α → MM β} {o : Ou β} {S' : Store} {G : β → Hp → AS → Hp → Prop}
    {R : γ → Hp → Prop} {T : (γ → Hp → Prop) → Prop} {Rl : Hp → AS → γ → α → Prop}
    (snd : ∀ (Q : γ → Hp → Prop) (o : Ou α) (S' : Store), f S = some (o, S') → Cont K E F as S' o (fun x F' as' H' => ∀ v, Rl F' as' v x → Q v H') → T Q)
    (h : MM.bind f g S = some (o, S')) (c : Cont K E F as S' o G)
    (k : ∀ (x : α) (S1 : Store) (F1 : Hp) (as1 : AS) (H1 : Hp) (v : γ), g x S1 = some (o, S') → Ext F as F1 as1 → SRel K F1 as1 S1 H1 → Rl F1 as1 v x → Cont K E F1 as1 S' o G → R v H1) : T R := by
  rcases bindE h with ⟨x, S1, h1, h2⟩ | ⟨x, S1, h1, h2⟩
  · exact snd R _ _ h1 fun F1 as1 H1 e s v rv => k x S1 F1 as1 H1 v h2 e s rv (c.step e)
  · cases h2
    exact snd R _ _ h1 fun F1 as1 H1 e s => c F1 as1 H1 e s

section
variable {X : Cx} {W : WX}

/-! ### names, constants -/
def sVar (i : Nat) : Sl → MM SV := fun ss S => match ss[i]? with
  | some (some x) => some (.ok x, S)
  | _ => none
def sC (d : D) : Sl → MM SV := fun _ S => some (.ok (.sh d), S)
theorem fe_var {i : Nat} {x : Str} {pos : Pos} (hN : X.N[i]? = some x) (hv : Vis X.env.scope x) (hd : (x == ("__debug__" : Str)) = false := by decide) (hcd : (x == ("__classdict__" : Str)) = false := by decide) : FE X W (.Name x pos) (sVar i) := by
  refine ⟨_, pe_var hN hv hd hcd, fun σ ss F as S H Q o S' r s h c => ?_⟩
  unfold sVar at h
  split at h
  · rename_i y e
    cases h
    obtain ⟨v, e1, rv⟩ := r.at_ i y e
    exact ⟨v, e1, c F as H (Ext.refl F as) s v rv⟩
  · cases h
theorem fe_c {e : Expr} {v : V} {d : D} (h : PE X e (tC v)) (hr : ∀ F, Rep X.kw F v d) : FE X W e (sC d) :=
  ⟨_, h, fun σ ss F as S H Q o S' r s e c => by cases e; exact c F as H (Ext.refl F as) s v (hr F)⟩
theorem fe_int {i j pos} : FE X W (.Constant (.int i) j pos) (sC (.int i)) := fe_c pe_int fun _ => .int i
theorem fe_bl {i j pos} : FE X W (.Constant (.bool i) j pos) (sC (.bl i)) := fe_c pe_bl fun _ => .bl i
theorem fe_non {j pos} : FE X W (.Constant .none j pos) (sC .non) := fe_c pe_non fun _ => .non
theorem fe_str {i j pos} : FE X W (.Constant (.str i) j pos) (sC (.str i)) := fe_c pe_str fun _ => .str i
theorem fe_globI {x : Str} {i : Int} {t : Tok} {pos : Pos} (hg : Gl X x) (hm : X.mg x = some (.int i t)) (hd : (x == ("__debug__" : Str)) = false := by decide) : FE X W (.Name x pos) (sC (.int i)) := fe_c (pe_glob (v := .int i) hg hm ⟨_, rfl⟩ hd) fun _ => .int i
theorem fe_globS {x z : Str} {t : Tok} {pos : Pos} (hg : Gl X x) (hm : X.mg x = some (.str z t)) (hd : (x == ("__debug__" : Str)) = false := by decide) : FE X W (.Name x pos) (sC (.str z)) := fe_c (pe_glob (v := .str z) hg hm ⟨_, rfl⟩ hd) fun _ => .str z
theorem fe_globR {x : Str} {a : Addr} {pos : Pos} (hg : Gl X x) (hm : X.mg x = some (.ref a)) (hd : (x == ("__debug__" : Str)) = false := by decide) : FE X W (.Name x pos) (sC (.ref a)) := fe_c (pe_glob (v := .ref a) hg hm rfl hd) fun _ => .ref a
theorem fe_globC {x : Str} {n : String} {pos : Pos} (hg : Gl X x) (hm : X.mg x = some (.ref (X.kw.cm n))) (hd : (x == ("__debug__" : Str)) = false := by decide) : FE X W (.Name x pos) (sC (.cls n)) := fe_c (pe_glob (v := .ref (X.kw.cm n)) hg hm rfl hd) fun _ => .cls n
theorem fe_bltn {x : Str} {n : String} {pos : Pos} (hg : Gl X x) (hm : X.mg x = none) (hv : bootBuiltins x = some (.type n)) (hn : x ≠ "__name__" := by decide) (hd : (x == ("__debug__" : Str)) = false := by decide) : FE X W (.Name x pos) (sC (.ty n)) := fe_c (pe_bltn (v := .ty n) hg hm hv rfl hn hd) fun _ => .ty n
/-- the value made data -/
def fz (f : Sl → MM SV) : Sl → MM SV := fun ss => MM.bind (f ss) fun x => MM.bind (frz x) fun d => ret (.sh d)
theorem fe_fz {e : Expr} {f : Sl → MM SV} (h : FE X W e f) : FE X W e (fz f) := by
  obtain ⟨te, p, snd⟩ := h.ex
  refine ⟨te, p, fun σ ss F as S H Q o S' r s h c => ?_⟩
  refine step (R := Q) (T := te σ H) (Rl := fun F' as' v x => VRel X.kw F' as' v x) (fun Q o S' h c => snd σ ss F as S H Q o S' r s h c) h c ?_
  intro x S1 F1 as1 H1 v h2 e1 s1 rv c1
  rcases bindE h2 with ⟨d, S2, h3, h4⟩ | ⟨d, S2, h3, h4⟩
  · obtain ⟨d', F2, ed, x2, s2, rd⟩ := frz_ok s1 rv h3
    cases ed
    cases h4
    exact c1 F2 as1 H1 x2 s2 v rd
  · obtain ⟨d', F2, ed, x2, s2, rd⟩ := frz_ok s1 rv h3
    cases ed

/-! ### answers of operations -/
/-- a new list, kept as a cell or as data -/
def alloc (c : Bool) (ds : List D) : MM SV := fun S => if c = true then some (.ok (.cl S.length), S ++ [.lst (ds.map SV.sh)]) else some (.ok (.sh (.lst ds)), S)
inductive An where
  | val (d : D) | lst (ds : List D) | tup (ds : List D) | set (xs : List Str)
def An.go (c : Bool) : An → MM SV
  | .val d => ret (.sh d)
  | .lst ds => alloc c ds
  | .tup ds => ret (.sh (.tup ds))
  | .set xs => ret (.sh (.set xs))
def An.ask (K : KW) (F H : Hp) (Q : VK) : An → Prop
  | .val d => ∀ v, Rep K F v d → Q v H
  | .lst ds => ∀ p vs, H p = none → RepL K F vs ds → Q (.ref p) (upd H p (.lst vs))
  | .tup ds => ∀ p vs, H p = none → RepL K F vs ds → Q (.ref p) (upd H p (.tup vs))
  | .set xs => ∀ p, H p = none → Q (.ref p) (upd H p (FwS.SetSO K.w p xs))
theorem SRel.laidL {K : KW} {F H : Hp} {as : AS} {S : Store} (s : SRel K F as S H) {p : Addr} {vs : List V} {ds : List D} (hp : H p = none) (r : RepL K F vs ds) :
    SRel K (upd F p (.lst vs)) as S (upd H p (.lst vs)) ∧ Ext F as (upd F p (.lst vs)) as ∧ Rep K (upd F p (.lst vs)) (.ref p) (.lst ds) :=
  ⟨s.newF hp, Ext.newF s hp, .lst upd_same (r.mono (same_upd (s.fnone hp)))⟩
theorem SRel.laidT {K : KW} {F H : Hp} {as : AS} {S : Store} (s : SRel K F as S H) {p : Addr} {vs : List V} {ds : List D} (hp : H p = none) (r : RepL K F vs ds) :
    SRel K (upd F p (.tup vs)) as S (upd H p (.tup vs)) ∧ Ext F as (upd F p (.tup vs)) as ∧ Rep K (upd F p (.tup vs)) (.ref p) (.tup ds) :=
  ⟨s.newF hp, Ext.newF s hp, .tup upd_same (r.mono (same_upd (s.fnone hp)))⟩
theorem SRel.laidC {K : KW} {F H : Hp} {as : AS} {S : Store} (s : SRel K F as S H) {p : Addr} {vs : List V} {xs : List SV} (hp : H p = none) (r : VsRel K F as vs xs) :
    SRel K F (as.snoc p) (S ++ [.lst xs]) (upd H p (.lst vs)) ∧ Ext F as F (as.snoc p) ∧ VRel K F (as.snoc p) (.ref p) (.cl S.length) :=
  ⟨s.newC hp ⟨s.fnone hp, vs, upd_same, r.mono (Ext.newC p)⟩, Ext.newC p, ⟨p, s.get_new p, rfl⟩⟩
theorem An.fin {K : KW} {E : XK} {F H : Hp} {as : AS} {S S' : Store} {o : Ou SV} {Q : VK} {c : Bool} {an : An} (s : SRel K F as S H) (h : an.go c S = some (o, S'))
    (cn : Cont K E F as S' o (fun x F' as' H' => ∀ v, VRel K F' as' v x → Q v H')) : an.ask K F H Q := by
  cases an with
  | val d => cases h; exact fun v r => cn F as H (Ext.refl F as) s v r
  | lst ds =>
    intro p vs hp r
    have h' : (if c = true then some (Ou.ok (SV.cl S.length), S ++ [.lst (ds.map SV.sh)]) else some (Ou.ok (SV.sh (.lst ds)), S)) = some (o, S') := h
    by_cases hc : c = true
    · rw [if_pos hc] at h'; cases h'
      obtain ⟨s1, x1, v1⟩ := s.laidC hp (VsRel.sh r)
      exact cn _ _ _ x1 s1 _ v1
    · rw [if_neg hc] at h'; cases h'
      obtain ⟨s1, x1, v1⟩ := s.laidL hp r
      exact cn _ _ _ x1 s1 _ v1
  | tup ds =>
    intro p vs hp r
    cases h
    obtain ⟨s1, x1, v1⟩ := s.laidT hp r
    exact cn _ _ _ x1 s1 _ v1
  | set xs =>
    intro p hp
    cases h
    exact cn _ _ _ (Ext.newF s hp) (s.newF hp) _ (.set upd_same)

/-- a rule of two values is told by a function of data -/
def Snd2 (K : KW) (r : R2) (g : D → D → Option An) : Prop := ∀ (F H : Hp) (x y : V) (d e : D) (an : An) (Q : VK), Same F H → RdRel K F H x d → RdRel K F H y e → g d e = some an → an.ask K F H Q → r x y H Q
def Snd1 (K : KW) (r : V → Hp → VK → Prop) (g : D → Option An) : Prop := ∀ (F H : Hp) (x : V) (d : D) (an : An) (Q : VK), Same F H → RdRel K F H x d → g d = some an → an.ask K F H Q → r x H Q
def SndN (K : KW) (r : List V → Hp → VK → Prop) (g : List D → Option An) : Prop := ∀ (F H : Hp) (xs : List V) (ds : List D) (an : An) (Q : VK), Same F H → Paired (RdRel K F H) xs ds → g ds = some an → an.ask K F H Q → r xs H Q
def s2 (c : Bool) (g : D → D → Option An) (x y : SV) : MM SV := fun S => match lookD S x, lookD S y with
  | some d, some e => match g d e with
    | some an => an.go c S
    | none => none
  | _, _ => none
def s1 (c : Bool) (g : D → Option An) (x : SV) : MM SV := fun S => match lookD S x with
  | some d => match g d with
    | some an => an.go c S
    | none => none
  | none => none
def lookA (S : Store) : List SV → Option (List D)
  | [] => some []
  | x :: r => match lookD S x, lookA S r with
    | some d, some ds => some (d :: ds)
    | _, _ => none
def sN (c : Bool) (g : List D → Option An) (xs : List SV) : MM SV := fun S => match lookA S xs with
  | some ds => match g ds with
    | some an => an.go c S
    | none => none
  | none => none
theorem s2_ok {K : KW} {E : XK} {F H : Hp} {as : AS} {S S' : Store} {o : Ou SV} {Q : VK} {c : Bool} {g : D → D → Option An} {r : R2} (hs : Snd2 K r g) {x y : V} {sx sy : SV} (s : SRel K F as S H) (rx : VRel K F as x sx) (ry : VRel K F as y sy)
    (h : s2 c g sx sy S = some (o, S')) (cn : Cont K E F as S' o (fun x F' as' H' => ∀ v, VRel K F' as' v x → Q v H')) : r x y H Q := by
  unfold s2 at h
  split at h
  · rename_i d e e1 e2
    split at h
    · rename_i an ea
      exact hs F H x y d e an Q s.ff (look_ok s rx e1) (look_ok s ry e2) ea (An.fin s h cn)
    · cases h
  · cases h
theorem s1_ok {K : KW} {E : XK} {F H : Hp} {as : AS} {S S' : Store} {o : Ou SV} {Q : VK} {c : Bool} {g : D → Option An} {r : V → Hp → VK → Prop} (hs : Snd1 K r g) {x : V} {sx : SV} (s : SRel K F as S H) (rx : VRel K F as x sx)
    (h : s1 c g sx S = some (o, S')) (cn : Cont K E F as S' o (fun x F' as' H' => ∀ v, VRel K F' as' v x → Q v H')) : r x H Q := by
  unfold s1 at h
  split at h
  · rename_i d e1
    split at h
    · rename_i an ea
      exact hs F H x d an Q s.ff (look_ok s rx e1) ea (An.fin s h cn)
    · cases h
  · cases h
theorem lookA_ok {K : KW} {F H : Hp} {as : AS} {S : Store} (s : SRel K F as S H) : ∀ {vs : List V} {xs : List SV} {ds : List D}, VsRel K F as vs xs → lookA S xs = some ds → Paired (RdRel K F H) vs ds
  | _, _, _, .nil, e => by cases e; exact .nil
  | _, x :: r, ds, .cons a q, e => by
    unfold lookA at e
    split at e
    · rename_i d es e1 e2
      cases e
      exact .cons (look_ok s a e1) (lookA_ok s q e2)
    · cases e
theorem sN_ok {K : KW} {E : XK} {F H : Hp} {as : AS} {S S' : Store} {o : Ou SV} {Q : VK} {c : Bool} {g : List D → Option An} {r : List V → Hp → VK → Prop} (hs : SndN K r g) {xs : List V} {sxs : List SV} (s : SRel K F as S H) (rx : VsRel K F as xs sxs)
    (h : sN c g sxs S = some (o, S')) (cn : Cont K E F as S' o (fun x F' as' H' => ∀ v, VRel K F' as' v x → Q v H')) : r xs H Q := by
  unfold sN at h
  split at h
  · rename_i ds e1
    split at h
    · rename_i an ea
      exact hs F H xs ds an Q s.ff (lookA_ok s rx e1) ea (An.fin s h cn)
    · cases h
  · cases h
def b2 (c : Bool) (g : D → D → Option An) (f k : Sl → MM SV) : Sl → MM SV := fun ss => MM.bind (f ss) fun x => MM.bind (k ss) fun y => s2 c g x y
def b1 (c : Bool) (g : D → Option An) (f : Sl → MM SV) : Sl → MM SV := fun ss => MM.bind (f ss) fun x => s1 c g x
def bN (c : Bool) (g : List D → Option An) (f : Sl → MM (List SV)) : Sl → MM SV := fun ss => MM.bind (f ss) fun xs => sN c g xs
/-- the reading of a two-place rule -/
theorem tOp_ok {ta tb : TE} {r : R2} {g : D → D → Option An} {c : Bool} {fa fb : Sl → MM SV} (hs : Snd2 X.kw r g) 
    (sa : ∀ (σ : L2.St) (ss : Sl) (F : Hp) (as : AS) (S : Store) (H : Hp) (Q : VK) (o : Ou SV) (S' : Store), SlRel X.kw F as σ ss → SRel X.kw F as S H → fa ss S = some (o, S') → Cont X.kw (WE W σ) F as S' o (fun x F' as' H' => ∀ v, VRel X.kw F' as' v x → Q v H') → ta σ H Q)
    (sb : ∀ (σ : L2.St) (ss : Sl) (F : Hp) (as : AS) (S : Store) (H : Hp) (Q : VK) (o : Ou SV) (S' : Store), SlRel X.kw F as σ ss → SRel X.kw F as S H → fb ss S = some (o, S') → Cont X.kw (WE W σ) F as S' o (fun x F' as' H' => ∀ v, VRel X.kw F' as' v x → Q v H') → tb σ H Q)
    (σ : L2.St) (ss : Sl) (F : Hp) (as : AS) (S : Store) (H : Hp) (Q : VK) (o : Ou SV) (S' : Store) (hr : SlRel X.kw F as σ ss) (s : SRel X.kw F as S H) (h : b2 c g fa fb ss S = some (o, S'))
    (cn : Cont X.kw (WE W σ) F as S' o (fun x F' as' H' => ∀ v, VRel X.kw F' as' v x → Q v H')) : tOp r ta tb σ H Q := by
  refine step (T := ta σ H) (Rl := fun F' as' v x => VRel X.kw F' as' v x) (fun Q o S' h c => sa σ ss F as S H Q o S' hr s h c) h cn ?_
  intro x S1 F1 as1 H1 v h1 e1 s1 rv c1
  refine step (T := tb σ H1) (Rl := fun F' as' v x => VRel X.kw F' as' v x) (fun Q o S' h c => sb σ ss F1 as1 S1 H1 Q o S' (hr.mono e1) s1 h c) h1 c1 ?_
  intro y S2 F2 as2 H2 w h2 e2 s2' rw' c2
  exact s2_ok hs s2' (rv.mono e2) rw' h2 c2
theorem fe_op {op : Operator} {a b : Expr} {r : R2} {g : D → D → Option An} {fa fb : Sl → MM SV} {pos : Pos} (c : Bool) (ho : OpR X (binaryOp op) r) (hs : Snd2 X.kw r g) (ha : FE X W a fa) (hb : FE X W b fb) : FE X W (.BinOp a op b pos) (b2 c g fa fb) := by
  obtain ⟨ta, pa, sa⟩ := ha.ex
  obtain ⟨tb, pb, sb⟩ := hb.ex
  exact ⟨_, pe_op ho pa pb, tOp_ok hs sa sb⟩
theorem fe_cmp {op : CmpOp} {a b : Expr} {r : R2} {g : D → D → Option An} {fa fb : Sl → MM SV} {pos : Pos} (ho : OpR X (compareOp op) r) (hs : Snd2 X.kw r g) (ha : FE X W a fa) (hb : FE X W b fb) (hm : behindInMarks op b = false) : FE X W (.Compare a [op] [b] pos) (b2 false g fa fb) := by
  obtain ⟨ta, pa, sa⟩ := ha.ex
  obtain ⟨tb, pb, sb⟩ := hb.ex
  exact ⟨_, pe_cmpR ho pa pb hm, tOp_ok hs sa sb⟩
theorem fe_ix {a b : Expr} {r : R2} {g : D → D → Option An} {fa fb : Sl → MM SV} {pos : Pos} (ho : IxR X r) (hs : Snd2 X.kw r g) (ha : FE X W a fa) (hb : FE X W b fb) (hp : PlainIx b) : FE X W (.Subscript a b pos) (b2 false g fa fb) := by
  obtain ⟨ta, pa, sa⟩ := ha.ex
  obtain ⟨tb, pb, sb⟩ := hb.ex
  exact ⟨_, pe_ix ho pa pb hp, tOp_ok hs sa sb⟩
theorem fe_un {op : UnaryOp} {a : Expr} {r : V → Hp → VK → Prop} {g : D → Option An} {fa : Sl → MM SV} {pos : Pos} (ho : UnR X (unaryOp op) r) (hs : Snd1 X.kw r g) (ha : FE X W a fa) : FE X W (.UnaryOp op a pos) (b1 false g fa) := by
  obtain ⟨ta, pa, sa⟩ := ha.ex
  refine ⟨_, pe_un ho pa, fun σ ss F as S H Q o S' hr s h cn => ?_⟩
  refine step (T := ta σ H) (Rl := fun F' as' v x => VRel X.kw F' as' v x) (fun Q o S' h c => sa σ ss F as S H Q o S' hr s h c) h cn ?_
  intro x S1 F1 as1 H1 v h1 e1 s1 rv c1
  exact s1_ok hs s1 rv h1 c1

/-! ### tests -/
def asB (x : SV) : MM Bool := fun S => match x with
  | .sh (.bl b) => some (.ok b, S)
  | _ => none
def sB (f : Sl → MM SV) : Sl → MM Bool := fun ss => MM.bind (f ss) asB
theorem asB_ok {K : KW} {E : XK} {F H : Hp} {as : AS} {S S' : Store} {o : Ou Bool} {Q : Bool → Hp → Prop} {v : V} {x : SV} (s : SRel K F as S H) (r : VRel K F as v x) (h : asB x S = some (o, S')) (c : Cont K E F as S' o (fun x _ _ H' => Q x H')) : ∃ k, v = .bl k ∧ Q k H := by
  unfold asB at h
  split at h
  · cases h
    exact ⟨_, Rep.bl_of r, c F as H (Ext.refl F as) s⟩
  · cases h
/-- an expression that is True or False -/
theorem ft_val {e : Expr} {f : Sl → MM SV} (h : FE X W e f) (he : ∀ whole, isTrue e X.env whole = (do let v ← whole; standAt e.pos; holding [v] (truthy v)) := by intro _; rfl) : FT X W e (sB f) := by
  obtain ⟨te, p, snd⟩ := h.ex
  refine ⟨_, pt_val p he, fun σ ss F as S H Q o S' hr s h c => ?_⟩
  refine step (T := te σ H) (Rl := fun F' as' v x => VRel X.kw F' as' v x) (fun Q o S' h c => snd σ ss F as S H Q o S' hr s h c) h c ?_
  intro x S1 F1 as1 H1 v h1 e1 s1 rv c1
  exact asB_ok s1 rv h1 c1
theorem ft_cmp {op : CmpOp} {a b : Expr} {r : R2} {g : D → D → Option An} {fa fb : Sl → MM SV} {pos : Pos} (ho : OpR X (compareOp op) r) (hs : Snd2 X.kw r g) (ha : FE X W a fa) (hb : FE X W b fb) (hm : behindInMarks op b = false) : FT X W (.Compare a [op] [b] pos) (sB (b2 false g fa fb)) := by
  obtain ⟨ta, pa, sa⟩ := ha.ex
  obtain ⟨tb, pb, sb⟩ := hb.ex
  refine ⟨_, pt_cmpR ho pa pb hm, fun σ ss F as S H Q o S' hr s h c => ?_⟩
  refine step (T := tOp r ta tb σ H) (Rl := fun F' as' v x => VRel X.kw F' as' v x) (fun Q o S' h c => tOp_ok hs sa sb σ ss F as S H Q o S' hr s h c) h c ?_
  intro x S1 F1 as1 H1 v h1 e1 s1 rv c1
  exact asB_ok s1 rv h1 c1
def truD : D → Option Bool
  | .non => some false
  | .bl b => some b
  | .int i => some (i != 0)
  | .str y => if y.length ≤ sizeLine then some ((y.length : Int) != 0) else none
  | .lst ds => some (!ds.isEmpty)
  | .scr ds => some (!ds.isEmpty)
  | .tup ds => some (!ds.isEmpty)
  | _ => none
def asT (x : SV) : MM Bool := fun S => match lookD S x with
  | some d => match truD d with
    | some b => some (.ok b, S)
    | none => none
  | none => none
def sT (f : Sl → MM SV) : Sl → MM Bool := fun ss => MM.bind (f ss) asT
theorem isEmpty_rep {K : KW} {F : Hp} {vs : List V} {ds : List D} (r : RepL K F vs ds) : vs.isEmpty = ds.isEmpty := by cases r <;> rfl
theorem ft_of {e : Expr} {f : Sl → MM SV} (h : FE X W e f) (he : ∀ whole, isTrue e X.env whole = (do let v ← whole; standAt e.pos; holding [v] (truthy v)) := by intro _; rfl) : FT X W e (sT f) := by
  obtain ⟨te, p, snd⟩ := h.ex
  refine ⟨_, pt_truth p he, fun σ ss F as S H Q o S' hr s h c => ?_⟩
  refine step (T := te σ H) (Rl := fun F' as' v x => VRel X.kw F' as' v x) (fun Q o S' h c => snd σ ss F as S H Q o S' hr s h c) h c ?_
  intro x S1 F1 as1 H1 v h1 e1 s1 rv c1
  unfold asT at h1
  split at h1
  · rename_i d ed
    split at h1
    · rename_i k ek
      cases h1
      have q := c1 F1 as1 H1 (Ext.refl F1 as1) s1
      have rd := look_ok s1 rv ed
      refine ⟨k, ?_, q⟩
      cases d with
      | non => rw [rd.non]; cases ek; rfl
      | bl b => rw [rd.bl]; cases ek; rfl
      | int i => rw [rd.int]; cases ek; rfl
      | str y =>
        rw [rd.str]
        have ek' : (if y.length ≤ sizeLine then some ((y.length : Int) != 0) else none) = some k := ek
        split at ek'
        · rename_i hl; cases ek'; exact ⟨hl, rfl⟩
        · cases ek'
      | lst ds => obtain ⟨a, vs, rfl, ha, rr⟩ := rd.isLst s1.ff; cases ek; exact .inl ⟨vs, SqL.of ha, by rw [isEmpty_rep rr]⟩
      | scr ds => obtain ⟨a, vs, rfl, ha, rr⟩ := rd.isScr s1.ff; cases ek; exact .inl ⟨vs, ha, by rw [isEmpty_rep rr]⟩
      | tup ds => obtain ⟨a, vs, rfl, ha, rr⟩ := rd.isTup s1.ff; cases ek; exact .inr (.inl ⟨vs, SqT.of ha, by rw [isEmpty_rep rr]⟩)
      | ty n => cases ek
      | ref a => cases ek
      | ins C ns ds => cases ek
      | set xs => cases ek
      | exc C ns ds => cases ek
      | cls C => cases ek
    · cases h1
  · cases h1
def bAnd (f k : Sl → MM Bool) : Sl → MM Bool := fun ss => MM.bind (f ss) fun c => if c = true then k ss else ret false
def bOr (f k : Sl → MM Bool) : Sl → MM Bool := fun ss => MM.bind (f ss) fun c => if c = true then ret true else k ss
def bNot (f : Sl → MM Bool) : Sl → MM Bool := fun ss => MM.bind (f ss) fun c => ret (!c)
theorem ft_w {e : Expr} {f : Sl → MM Bool} (h : FWt X W e f) : FT X W e f := let ⟨te, p, s⟩ := h.ex; ⟨te, p.pt, s⟩
theorem fw_and1 {a : Expr} {f : Sl → MM Bool} {pos : Pos} (h : FT X W a f) : FWt X W (.BoolOp .And [a] pos) f := let ⟨te, p, s⟩ := h.ex; ⟨te, pw_and1 p, s⟩
theorem fw_or1 {a : Expr} {f : Sl → MM Bool} {pos : Pos} (h : FT X W a f) : FWt X W (.BoolOp .Or [a] pos) f := let ⟨te, p, s⟩ := h.ex; ⟨te, pw_or1 p, s⟩
theorem ret_inv {α : Type} {x : α} {S S' : Store} {o : Ou α} (h : ret x S = some (o, S')) : o = .ok x ∧ S' = S := by cases h; exact ⟨rfl, rfl⟩
/-- a step of a test -/
theorem stepT {β : Type} {K : KW} {E : XK} {F : Hp} {as : AS} {S : Store} {f : MM Bool} {g : Bool → MM β} {o : Ou β} {S' : Store} {G : β → Hp → AS → Hp → Prop}
    {R : Bool → Hp → Prop} {T : (Bool → Hp → Prop) → Prop}
    (snd : ∀ (Q : Bool → Hp → Prop) (o : Ou Bool) (S' : Store), f S = some (o, S') → Cont K E F as S' o (fun x _ _ H' => Q x H') → T Q)
    (h : MM.bind f g S = some (o, S')) (c : Cont K E F as S' o G)
    (k : ∀ (x : Bool) (S1 : Store) (F1 : Hp) (as1 : AS) (H1 : Hp), g x S1 = some (o, S') → Ext F as F1 as1 → SRel K F1 as1 S1 H1 → Cont K E F1 as1 S' o G → R x H1) : T R := by
  rcases bindE h with ⟨x, S1, h1, h2⟩ | ⟨x, S1, h1, h2⟩
  · exact snd R _ _ h1 fun F1 as1 H1 e s => k x S1 F1 as1 H1 h2 e s (c.step e)
  · cases h2
    exact snd R _ _ h1 fun F1 as1 H1 e s => c F1 as1 H1 e s
theorem fw_and {a b : Expr} {rest : List Expr} {f k : Sl → MM Bool} {pos : Pos} (ha : FT X W a f) (hb : FWt X W (.BoolOp .And (b :: rest) pos) k) : FWt X W (.BoolOp .And (a :: b :: rest) pos) (bAnd f k) := by
  obtain ⟨ta, pa, sa⟩ := ha.ex
  obtain ⟨tb, pb, sb⟩ := hb.ex
  refine ⟨_, pw_and pa pb, fun σ ss F as S H Q o S' hr s h c => ?_⟩
  refine stepT (T := ta σ H) (fun Q o S' h c => sa σ ss F as S H Q o S' hr s h c) h c ?_
  intro x S1 F1 as1 H1 h1 e1 s1 c1
  cases x with
  | true => exact sb σ ss F1 as1 S1 H1 Q o S' (hr.mono e1) s1 h1 c1
  | false => obtain ⟨rfl, rfl⟩ := ret_inv h1; exact c1 F1 as1 H1 (Ext.refl F1 as1) s1
theorem fw_or {a b : Expr} {rest : List Expr} {f k : Sl → MM Bool} {pos : Pos} (ha : FT X W a f) (hb : FWt X W (.BoolOp .Or (b :: rest) pos) k) : FWt X W (.BoolOp .Or (a :: b :: rest) pos) (bOr f k) := by
  obtain ⟨ta, pa, sa⟩ := ha.ex
  obtain ⟨tb, pb, sb⟩ := hb.ex
  refine ⟨_, pw_or pa pb, fun σ ss F as S H Q o S' hr s h c => ?_⟩
  refine stepT (T := ta σ H) (fun Q o S' h c => sa σ ss F as S H Q o S' hr s h c) h c ?_
  intro x S1 F1 as1 H1 h1 e1 s1 c1
  cases x with
  | false => exact sb σ ss F1 as1 S1 H1 Q o S' (hr.mono e1) s1 h1 c1
  | true => obtain ⟨rfl, rfl⟩ := ret_inv h1; exact c1 F1 as1 H1 (Ext.refl F1 as1) s1
theorem ft_not {a : Expr} {f : Sl → MM Bool} {pos : Pos} (ha : FT X W a f) : FT X W (.UnaryOp .Not a pos) (bNot f) := by
  obtain ⟨ta, pa, sa⟩ := ha.ex
  refine ⟨_, pt_not pa, fun σ ss F as S H Q o S' hr s h c => ?_⟩
  refine stepT (T := ta σ H) (fun Q o S' h c => sa σ ss F as S H Q o S' hr s h c) h c ?_
  intro x S1 F1 as1 H1 h1 e1 s1 c1
  obtain ⟨rfl, rfl⟩ := ret_inv h1; exact c1 F1 as1 H1 (Ext.refl F1 as1) s1
/-- as values -/
def vAnd (f : Sl → MM SV) (k : Sl → MM SV) : Sl → MM SV := fun ss => MM.bind (sB f ss) fun c => if c = true then k ss else ret (.sh (.bl false))
def vOr (f : Sl → MM SV) (k : Sl → MM SV) : Sl → MM SV := fun ss => MM.bind (sB f ss) fun c => if c = true then ret (.sh (.bl true)) else k ss
def vNot (f : Sl → MM SV) : Sl → MM SV := fun ss => MM.bind (sB f ss) fun c => ret (.sh (.bl (!c)))
def vIf (t : Sl → MM Bool) (f k : Sl → MM SV) : Sl → MM SV := fun ss => MM.bind (t ss) fun c => if c = true then f ss else k ss
theorem fe_one {op} {a : Expr} {f : Sl → MM SV} {pos : Pos} (h : FE X W a f) : FE X W (.BoolOp op [a] pos) f := let ⟨te, p, s⟩ := h.ex; ⟨te, pe_one p, s⟩
theorem sB_step {a : Expr} {f : Sl → MM SV} {ta : TE} (sa : ∀ (σ : L2.St) (ss : Sl) (F : Hp) (as : AS) (S : Store) (H : Hp) (Q : VK) (o : Ou SV) (S' : Store), SlRel X.kw F as σ ss → SRel X.kw F as S H → f ss S = some (o, S') → Cont X.kw (WE W σ) F as S' o (fun x F' as' H' => ∀ v, VRel X.kw F' as' v x → Q v H') → ta σ H Q)
    (σ : L2.St) (ss : Sl) (F : Hp) (as : AS) (S : Store) (H : Hp) (Q : Bool → Hp → Prop) (o : Ou Bool) (S' : Store) (hr : SlRel X.kw F as σ ss) (s : SRel X.kw F as S H) (h : sB f ss S = some (o, S')) (c : Cont X.kw (WE W σ) F as S' o (fun x _ _ H' => Q x H')) :
    ta σ H (fun x H1 => ∃ c, x = .bl c ∧ Q c H1) := by
  refine step (T := ta σ H) (Rl := fun F' as' v x => VRel X.kw F' as' v x) (fun Q o S' h c => sa σ ss F as S H Q o S' hr s h c) h c ?_
  intro x S1 F1 as1 H1 v h1 e1 s1 rv c1
  exact asB_ok s1 rv h1 c1
theorem fe_and {a b : Expr} {rest : List Expr} {f k : Sl → MM SV} {pos : Pos} (ha : FE X W a f) (hb : FE X W (.BoolOp .And (b :: rest) pos) k) : FE X W (.BoolOp .And (a :: b :: rest) pos) (vAnd f k) := by
  obtain ⟨ta, pa, sa⟩ := ha.ex
  obtain ⟨tb, pb, sb⟩ := hb.ex
  refine ⟨_, pe_and pa pb, fun σ ss F as S H Q o S' hr s h c => ?_⟩
  refine stepT (T := fun R => ta σ H (fun x H1 => ∃ c, x = .bl c ∧ R c H1)) (R := fun c H1 => if c = true then tb σ H1 Q else Q (.bl false) H1) (fun Q o S' h c => sB_step (a := a) sa σ ss F as S H Q o S' hr s h c) h c ?_
  intro x S1 F1 as1 H1 h1 e1 s1 c1
  cases x with
  | true => exact sb σ ss F1 as1 S1 H1 Q o S' (hr.mono e1) s1 h1 c1
  | false => obtain ⟨rfl, rfl⟩ := ret_inv h1; exact c1 F1 as1 H1 (Ext.refl F1 as1) s1 _ (.bl false)
theorem fe_or {a b : Expr} {rest : List Expr} {f k : Sl → MM SV} {pos : Pos} (ha : FE X W a f) (hb : FE X W (.BoolOp .Or (b :: rest) pos) k) : FE X W (.BoolOp .Or (a :: b :: rest) pos) (vOr f k) := by
  obtain ⟨ta, pa, sa⟩ := ha.ex
  obtain ⟨tb, pb, sb⟩ := hb.ex
  refine ⟨_, pe_or pa pb, fun σ ss F as S H Q o S' hr s h c => ?_⟩
  refine stepT (T := fun R => ta σ H (fun x H1 => ∃ c, x = .bl c ∧ R c H1)) (R := fun c H1 => if c = true then Q (.bl true) H1 else tb σ H1 Q) (fun Q o S' h c => sB_step (a := a) sa σ ss F as S H Q o S' hr s h c) h c ?_
  intro x S1 F1 as1 H1 h1 e1 s1 c1
  cases x with
  | false => exact sb σ ss F1 as1 S1 H1 Q o S' (hr.mono e1) s1 h1 c1
  | true => obtain ⟨rfl, rfl⟩ := ret_inv h1; exact c1 F1 as1 H1 (Ext.refl F1 as1) s1 _ (.bl true)
theorem fe_not {a : Expr} {f : Sl → MM SV} {pos : Pos} (ha : FE X W a f) : FE X W (.UnaryOp .Not a pos) (vNot f) := by
  obtain ⟨ta, pa, sa⟩ := ha.ex
  refine ⟨_, pe_not pa, fun σ ss F as S H Q o S' hr s h c => ?_⟩
  refine stepT (T := fun R => ta σ H (fun x H1 => ∃ c, x = .bl c ∧ R c H1)) (R := fun c H1 => Q (.bl (!c)) H1) (fun Q o S' h c => sB_step (a := a) sa σ ss F as S H Q o S' hr s h c) h c ?_
  intro x S1 F1 as1 H1 h1 e1 s1 c1
  obtain ⟨rfl, rfl⟩ := ret_inv h1; exact c1 F1 as1 H1 (Ext.refl F1 as1) s1 _ (.bl _)
theorem fe_if {c a b : Expr} {t : Sl → MM Bool} {f k : Sl → MM SV} {pos : Pos} (hc : FT X W c t) (ha : FE X W a f) (hb : FE X W b k) : FE X W (.IfExp c a b pos) (vIf t f k) := by
  obtain ⟨tc, pc, sc⟩ := hc.ex
  obtain ⟨ta, pa, sa⟩ := ha.ex
  obtain ⟨tb, pb, sb⟩ := hb.ex
  refine ⟨_, pe_ifExp pc pa pb, fun σ ss F as S H Q o S' hr s h c => ?_⟩
  refine stepT (T := tc σ H) (fun Q o S' h c => sc σ ss F as S H Q o S' hr s h c) h c ?_
  intro x S1 F1 as1 H1 h1 e1 s1 c1
  cases x with
  | true => exact sa σ ss F1 as1 S1 H1 Q o S' (hr.mono e1) s1 h1 c1
  | false => exact sb σ ss F1 as1 S1 H1 Q o S' (hr.mono e1) s1 h1 c1

/-! ### argument lists, displays -/
def aNil : Sl → MM (List SV) := fun _ => ret []
def aCons (f : Sl → MM SV) (g : Sl → MM (List SV)) : Sl → MM (List SV) := fun ss => MM.bind (f ss) fun x => MM.bind (g ss) fun xs => ret (x :: xs)
theorem fa_nil : FA X W [] aNil := ⟨_, pa_nil, fun σ ss F as S H Q o S' hr s h c => by cases h; exact c F as H (Ext.refl F as) s [] .nil⟩
theorem fa_cons {e : Expr} {es : List Expr} {f : Sl → MM SV} {g : Sl → MM (List SV)} (ha : FE X W e f) (hb : FA X W es g) (hs : starEach (e :: es) X.env = (false, eval e X.env) :: starEach es X.env := by rfl) : FA X W (e :: es) (aCons f g) := by
  obtain ⟨ta, pa, sa⟩ := ha.ex
  obtain ⟨tb, pb, sb⟩ := hb.ex
  refine ⟨_, pa_cons pa pb hs, fun σ ss F as S H Q o S' hr s h c => ?_⟩
  refine step (T := ta σ H) (Rl := fun F' as' v x => VRel X.kw F' as' v x) (fun Q o S' h c => sa σ ss F as S H Q o S' hr s h c) h c ?_
  intro x S1 F1 as1 H1 v h1 e1 s1 rv c1
  refine step (T := tb σ H1) (Rl := fun F' as' v x => VsRel X.kw F' as' v x) (fun Q o S' h c => sb σ ss F1 as1 S1 H1 Q o S' (hr.mono e1) s1 h c) h1 c1 ?_
  intro xs S2 F2 as2 H2 vs h2 e2 s2' rvs c2
  obtain ⟨rfl, rfl⟩ := ret_inv h2
  exact c2 F2 as2 H2 (Ext.refl F2 as2) s2' _ (.cons (rv.mono e2) rvs)
/-- the items of a tuple or list as data -/
def seqD : D → Option (List D)
  | .lst ds => some ds
  | .scr ds => some ds
  | .tup ds => some ds
  | _ => none
def aStar (f : Sl → MM SV) (g : Sl → MM (List SV)) : Sl → MM (List SV) := fun ss => MM.bind (f ss) fun x => fun S => match (lookD S x).bind seqD with
  | some ds => MM.bind (g ss) (fun xs => ret (ds.map SV.sh ++ xs)) S
  | none => none
theorem VsRel.append {K : KW} {F : Hp} {as : AS} : ∀ {a : List V} {b : List SV} {c : List V} {d : List SV}, VsRel K F as a b → VsRel K F as c d → VsRel K F as (a ++ c) (b ++ d)
  | _, _, _, _, .nil, q => q
  | _, _, _, _, .cons a r, q => .cons a (VsRel.append r q)
theorem RdRel.seq {K : KW} {F H : Hp} {v : V} {d : D} {ds : List D} (r : RdRel K F H v d) (s : Same F H) (e : seqD d = some ds) : ∃ a vs, v = .ref a ∧ (SqT K.K H a vs ∨ SqL K.K H a vs) ∧ RepL K F vs ds := by
  cases d with
  | lst es => cases e; obtain ⟨a, vs, h1, h2, h3⟩ := r.isLst s; exact ⟨a, vs, h1, .inr (SqL.of h2), h3⟩
  | scr es => cases e; obtain ⟨a, vs, h1, h2, h3⟩ := r.isScr s; exact ⟨a, vs, h1, .inr h2, h3⟩
  | tup es => cases e; obtain ⟨a, vs, h1, h2, h3⟩ := r.isTup s; exact ⟨a, vs, h1, .inl (SqT.of h2), h3⟩
  | _ => cases e
theorem fa_star {e : Expr} {es : List Expr} {p : Pos} {f : Sl → MM SV} {g : Sl → MM (List SV)} (ha : FE X W e f) (hb : FA X W es g) (hs : starEach (.Starred e p :: es) X.env = (true, eval e X.env) :: starEach es X.env := by rfl) : FA X W (.Starred e p :: es) (aStar f g) := by
  obtain ⟨ta, pa, sa⟩ := ha.ex
  obtain ⟨tb, pb, sb⟩ := hb.ex
  refine ⟨_, StX.pa_star pa pb hs, fun σ ss F as S H Q o S' hr s h c => ?_⟩
  refine step (T := ta σ H) (Rl := fun F' as' v x => VRel X.kw F' as' v x) (fun Q o S' h c => sa σ ss F as S H Q o S' hr s h c) h c ?_
  intro x S1 F1 as1 H1 v h1 e1 s1 rv c1
  split at h1
  · rename_i ds ed
    cases q : lookD S1 x with
    | none => rw [q] at ed; cases ed
    | some d =>
      rw [q] at ed
      obtain ⟨a, vs, rfl, hq, rr⟩ := (look_ok s1 rv q).seq s1.ff ed
      refine ⟨a, vs, rfl, hq, ?_⟩
      refine step (T := tb σ H1) (Rl := fun F' as' v x => VsRel X.kw F' as' v x) (fun Q o S' h c => sb σ ss F1 as1 S1 H1 Q o S' (hr.mono e1) s1 h c) h1 c1 ?_
      intro xs S2 F2 as2 H2 ws h2 e2 s2' rvs c2
      obtain ⟨rfl, rfl⟩ := ret_inv h2
      exact c2 F2 as2 H2 (Ext.refl F2 as2) s2' _ (VsRel.append (VsRel.sh (rr.mono e2.same)) rvs)
  · cases h1
/-- a displayed list: a cell of any values, or (c = false) data -/
def mkL (c : Bool) (xs : List SV) : MM SV := fun S => if xs.length ≤ sizeLine then (if c = true then some (.ok (.cl S.length), S ++ [.lst xs]) else (allSh xs).map fun ds => (.ok (.sh (.lst ds)), S)) else none
def mkT (xs : List SV) : MM SV := fun S => if xs.length ≤ sizeLine then (allSh xs).map fun ds => (.ok (.sh (.tup ds)), S) else none
def sLst (c : Bool) (g : Sl → MM (List SV)) : Sl → MM SV := fun ss => MM.bind (g ss) (mkL c)
def sTup (g : Sl → MM (List SV)) : Sl → MM SV := fun ss => MM.bind (g ss) mkT
theorem fe_lst {es : List Expr} {g : Sl → MM (List SV)} {pos : Pos} (c : Bool) (ha : FA X W es g) : FE X W (.List es pos) (sLst c g) := by
  obtain ⟨ta, pa, sa⟩ := ha.ex
  refine ⟨_, pe_lst pa, fun σ ss F as S H Q o S' hr s h cn => ?_⟩
  refine step (T := ta σ H) (Rl := fun F' as' v x => VsRel X.kw F' as' v x) (fun Q o S' h c => sa σ ss F as S H Q o S' hr s h c) h cn ?_
  intro xs S1 F1 as1 H1 vs h1 e1 s1 rv c1
  unfold mkL at h1
  split at h1
  · rename_i hl
    refine ⟨by rw [Paired.length rv]; exact hl, fun p hp => ?_⟩
    by_cases hc : c = true
    · rw [if_pos hc] at h1; cases h1
      obtain ⟨s2, x2, v2⟩ := s1.laidC hp rv
      exact c1 _ _ _ x2 s2 _ v2
    · rw [if_neg hc] at h1
      cases q : allSh xs with
      | none => rw [q] at h1; cases h1
      | some ds =>
        rw [q] at h1; cases h1
        obtain ⟨s2, x2, v2⟩ := s1.laidL hp (allSh_rep rv q)
        exact c1 _ _ _ x2 s2 _ v2
  · cases h1
theorem fe_tup {es : List Expr} {g : Sl → MM (List SV)} {x1} {pos : Pos} (ha : FA X W es g) : FE X W (.Tuple es x1 pos) (sTup g) := by
  obtain ⟨ta, pa, sa⟩ := ha.ex
  refine ⟨_, pe_tup (pos := pos) pa, fun σ ss F as S H Q o S' hr s h cn => ?_⟩
  refine step (T := ta σ H) (Rl := fun F' as' v x => VsRel X.kw F' as' v x) (fun Q o S' h c => sa σ ss F as S H Q o S' hr s h c) h cn ?_
  intro xs S1 F1 as1 H1 vs h1 e1 s1 rv c1
  unfold mkT at h1
  split at h1
  · rename_i hl
    refine ⟨by rw [Paired.length rv]; exact hl, fun p hp => ?_⟩
    cases q : allSh xs with
    | none => rw [q] at h1; cases h1
    | some ds =>
      rw [q] at h1; cases h1
      obtain ⟨s2, x2, v2⟩ := s1.laidT hp (allSh_rep rv q)
      exact c1 _ _ _ x2 s2 _ v2
  · cases h1

/-! ### calls of what is built in -/
theorem tCB_ok {ta : TA} {r : List V → Hp → VK → Prop} {g : List D → Option An} {c : Bool} {fa : Sl → MM (List SV)} (hs : SndN X.kw r g)
    (sa : ∀ (σ : L2.St) (ss : Sl) (F : Hp) (as : AS) (S : Store) (H : Hp) (Q : List V → Hp → Prop) (o : Ou (List SV)) (S' : Store), SlRel X.kw F as σ ss → SRel X.kw F as S H → fa ss S = some (o, S') → Cont X.kw (WE W σ) F as S' o (fun x F' as' H' => ∀ v, VsRel X.kw F' as' v x → Q v H') → ta σ H Q)
    (σ : L2.St) (ss : Sl) (F : Hp) (as : AS) (S : Store) (H : Hp) (Q : VK) (o : Ou SV) (S' : Store) (hr : SlRel X.kw F as σ ss) (s : SRel X.kw F as S H) (h : bN c g fa ss S = some (o, S'))
    (cn : Cont X.kw (WE W σ) F as S' o (fun x F' as' H' => ∀ v, VRel X.kw F' as' v x → Q v H')) : tCB r ta σ H Q := by
  refine step (T := ta σ H) (Rl := fun F' as' v x => VsRel X.kw F' as' v x) (fun Q o S' h c => sa σ ss F as S H Q o S' hr s h c) h cn ?_
  intro x S1 F1 as1 H1 v h1 e1 s1 rv c1
  exact sN_ok hs s1 rv h1 c1
theorem fe_callB {x : Str} {id : String} {e : Expr} {es : List Expr} {r : List V → Hp → VK → Prop} {g : List D → Option An} {fa : Sl → MM (List SV)} {p pos : Pos} (c : Bool) (hc : CallR X (.builtin id) r) (hs : SndN X.kw r g) (hg : Gl X x) (hm : X.mg x = none) (hv : bootBuiltins x = some (.builtin id)) (ha : FA X W (e :: es) fa) (hn : x ≠ "__name__" := by decide) (hdb : (x == ("__debug__" : Str)) = false := by decide)
    (he : starEach (e :: es) X.env = (false, eval e X.env) :: starEach es X.env := by rfl) (hpl : (backTo pos (starEach es X.env)).any (·.1) = false := by rfl) : FE X W (.Call (.Name x p) (e :: es) [] pos) (bN c g fa) := by
  obtain ⟨ta, pa, sa⟩ := ha.ex
  exact ⟨_, pe_callB hc hg hm hv pa hn hdb he hpl, tCB_ok hs sa⟩
theorem fe_callTy {x : Str} {T : String} {e : Expr} {es : List Expr} {r : List V → Hp → VK → Prop} {g : List D → Option An} {fa : Sl → MM (List SV)} {p pos : Pos} (c : Bool) (hc : CallR X (.type T) r) (hs : SndN X.kw r g) (hg : Gl X x) (hm : X.mg x = none) (hv : bootBuiltins x = some (.type T)) (ha : FA X W (e :: es) fa) (hn : x ≠ "__name__" := by decide) (hdb : (x == ("__debug__" : Str)) = false := by decide)
    (he : starEach (e :: es) X.env = (false, eval e X.env) :: starEach es X.env := by rfl) (hpl : (backTo pos (starEach es X.env)).any (·.1) = false := by rfl) : FE X W (.Call (.Name x p) (e :: es) [] pos) (bN c g fa) := by
  obtain ⟨ta, pa, sa⟩ := ha.ex
  exact ⟨_, pe_callTy hc hg hm hv pa hn hdb he hpl, tCB_ok hs sa⟩
end
end FW

set_option Elab.async false
set_option linter.all false
set_option maxRecDepth 100000
/-! FW, part B2: things kept aside, cells cut off. -/
namespace FW
open PySem PySem.Spec PyProof.Rows L2
section
variable {K : KW} {F F' H H' : Hp} {as as' : AS} {S S' T : Store} {p : Addr} {o u : HO}
theorem hide_same : (as.hide p o).g p = some o := if_pos rfl
theorem hide_ne {b : Addr} (h : b ≠ p) : (as.hide p o).g b = as.g b := if_neg h
theorem CRel.hide {m : MO} {a : Addr} (c : CRel K F as H a m) : CRel K F (as.hide p o) H a m := by
  cases m with
  | lst xs => exact c
  | ins C ns xs => exact c
  | dct ks xs => exact c
  | fro d => exact c
theorem SRel.hide (s : SRel K F as S H) (hp : H p = none) : SRel K F (as.hide p o) S (upd H p o) := by
  have s1 := s.more (p := p) (o := o) hp
  refine ⟨s1.ff, s1.nd, s1.len, s1.there, fun k a m h1 h2 => (s1.cell k a m h1 h2).hide, fun a v e => ?_⟩
  by_cases h : a = p
  · subst h
    rw [hide_same] at e; cases e
    refine ⟨upd_same, s.fnone hp, fun hm => ?_⟩
    obtain ⟨w, q⟩ := s.there a hm
    rw [hp] at q; cases q
  · rw [hide_ne h] at e
    exact s1.gh a v e
theorem SRel.gnone (s : SRel K F as S H) (hp : H p = none) : as.g p = none := by
  cases e : as.g p with
  | none => rfl
  | some v => obtain ⟨g, _⟩ := s.gh p v e; rw [hp] at g; cases g
theorem SRel.rehide (s : SRel K F (as.hide p o) S H) : SRel K F (as.hide p u) S (upd H p u) := by
  obtain ⟨g1, g2, g3⟩ := s.gh p o hide_same
  have na : ∀ a ∈ as.l, a ≠ p := fun a ha z => g3 (by rw [← z]; exact ha)
  refine ⟨same_updH s.ff g2, s.nd, s.len, fun a ha => ?_, fun k a m h1 h2 => ?_, fun a v e => ?_⟩
  · obtain ⟨w, q⟩ := s.there a ha
    exact ⟨w, by rw [upd_ne (na a ha)]; exact q⟩
  · have c : CRel K F (as.hide p o) H a m := s.cell k a m h1 h2
    have nea := na a (List.mem_of_getElem? h1)
    cases m with
    | lst xs => obtain ⟨f, vs, e, r⟩ := c; exact ⟨f, vs, by rw [upd_ne nea]; exact e, r⟩
    | ins C ns xs => obtain ⟨f, dx, vs, e, hl, r⟩ := c; exact ⟨f, dx, vs, by rw [upd_ne nea]; exact e, hl, r⟩
    | dct ks xs => obtain ⟨f, vs, e, hl, r⟩ := c; exact ⟨f, vs, by rw [upd_ne nea]; exact e, hl, r⟩
    | fro d => exact c
  · by_cases h : a = p
    · subst h
      rw [hide_same] at e; cases e
      exact ⟨upd_same, g2, g3⟩
    · rw [hide_ne h] at e
      obtain ⟨q1, q2, q3⟩ := s.gh a v (by rw [hide_ne h]; exact e)
      exact ⟨by rw [upd_ne h]; exact q1, q2, q3⟩
/-- what was kept aside stands still from now on -/
theorem SRel.unhide (s : SRel K F (as.hide p o) S H) (hn : as.g p = none) : SRel K (upd F p o) as S H ∧ Same F (upd F p o) := by
  obtain ⟨g1, g2, g3⟩ := s.gh p o hide_same
  have hs : Same F (upd F p o) := same_upd g2
  have na : ∀ a ∈ as.l, a ≠ p := fun a ha z => g3 (by rw [← z]; exact ha)
  have hx : Ext F as (upd F p o) as := ⟨hs, ⟨[], (List.append_nil _).symm⟩, rfl⟩
  refine ⟨⟨fun b v e => ?_, s.nd, s.len, s.there, fun k a m h1 h2 => ?_, fun a v e => ?_⟩, hs⟩
  · by_cases hb : b = p
    · subst hb; rw [upd_same] at e; cases e; exact g1
    · rw [upd_ne hb] at e; exact s.ff _ _ e
  · have c : CRel K F (as.hide p o) H a m := s.cell k a m h1 h2
    have nea := na a (List.mem_of_getElem? h1)
    cases m with
    | lst xs => obtain ⟨f, vs, e, r⟩ := c; exact ⟨by rw [upd_ne nea]; exact f, vs, e, VsRel.mono hx r⟩
    | ins C ns xs => obtain ⟨f, dx, vs, e, hl, r⟩ := c; exact ⟨by rw [upd_ne nea]; exact f, dx, vs, e, hl, VsRel.mono hx r⟩
    | dct ks xs => obtain ⟨f, vs, e, hl, r⟩ := c; exact ⟨by rw [upd_ne nea]; exact f, vs, e, hl, VsRel.mono hx r⟩
    | fro d => exact Rep.mono hs c
  · have h : a ≠ p := fun z => by rw [z, hn] at e; cases e
    obtain ⟨q1, q2, q3⟩ := s.gh a v (by rw [hide_ne h]; exact e)
    exact ⟨q1, by rw [upd_ne h]; exact q2, q3⟩

/-! ### cells cut off -/
def noCl : SV → Prop
  | .sh _ => True
  | .cl _ => False
def flat : MO → Prop
  | .lst xs => ∀ x ∈ xs, noCl x
  | .ins _ _ xs => ∀ x ∈ xs, noCl x
  | .fro _ => True
  | .dct _ xs => ∀ x ∈ xs, noCl x
/-- the old cells: as they were, or without references -/
def okBack (S S1 : Store) : Prop := S.length ≤ S1.length ∧ ∀ (k : Nat) (m : MO), k < S.length → S1[k]? = some m → S[k]? = some m ∨ flat m
open Classical in
noncomputable def cut (S S1 : Store) : Option Store := if okBack S S1 then some (S1.take S.length) else none
theorem VsRel.take_of {n : Nat} {vs : List V} {xs : List SV} (r : VsRel K F' as' vs xs) (h : ∀ x ∈ xs, ∀ j, x = .cl j → j < n) : VsRel K F' ⟨as'.l.take n, as'.g⟩ vs xs := by
  induction r with
  | nil => exact .nil
  | @cons v x vs xs a r ih =>
    refine .cons ?_ (ih fun y hy => h y (List.mem_cons_of_mem _ hy))
    cases x with
    | sh d => exact a
    | cl k =>
      obtain ⟨b, e, q⟩ := a
      have hk := h (.cl k) List.mem_cons_self k rfl
      exact ⟨b, by show (as'.l.take n)[k]? = _; rw [List.getElem?_take_of_lt hk]; exact e, q⟩
theorem VsRel.below {vs : List V} {xs : List SV} (r : VsRel K F as vs xs) : ∀ x ∈ xs, ∀ j, x = .cl j → j < as.l.length := by
  induction r with
  | nil => exact fun x hx => absurd hx (by simp)
  | @cons v x vs xs a r ih =>
    intro y hy j e
    rcases List.mem_cons.mp hy with q | q
    · subst q; subst e
      obtain ⟨b, h, _⟩ := a
      rcases Nat.lt_or_ge j as.l.length with q | q
      · exact q
      · rw [List.getElem?_eq_none q] at h; cases h
    · exact ih y q j e
theorem noCl.below {xs : List SV} (h : ∀ x ∈ xs, noCl x) {n : Nat} : ∀ x ∈ xs, ∀ j, x = .cl j → j < n := fun x hx j e => by
  have := h x hx
  rw [e] at this
  exact this.elim
theorem AS.ext_eq {as as' : AS} (h : as.l = as'.l) (g : as.g = as'.g) : as = as' := by cases as; cases as'; cases h; cases g; rfl
theorem cut_rel (s : SRel K F as S H) (e : Ext F as F' as') (s' : SRel K F' as' S' H') (c : cut S S' = some T) : SRel K F' as T H' := by
  unfold cut at c
  split at c
  · rename_i hb
    cases c
    obtain ⟨hl, hb⟩ := hb
    obtain ⟨t, et⟩ := e.pre
    have ea : (⟨as'.l.take S.length, as'.g⟩ : AS) = as := AS.ext_eq (by show as'.l.take S.length = as.l; rw [et, ← s.len]; simp) e.gs
    refine ⟨s'.ff, s.nd, ?_, fun a ha => s'.there a (by rw [et]; exact List.mem_append_left _ ha), fun k a m h1 h2 => ?_, fun a v q => ?_⟩
    · rw [List.length_take, s.len]; omega
    · have hk : k < S.length := by
        rw [← s.len]
        rcases Nat.lt_or_ge k as.l.length with q | q
        · exact q
        · rw [List.getElem?_eq_none q] at h1; cases h1
      rw [List.getElem?_take_of_lt hk] at h2
      have h1' : as'.l[k]? = some a := e.get h1
      have c := s'.cell k a m h1' h2
      have low : (∀ xs, m = .lst xs → ∀ x ∈ xs, ∀ j, x = .cl j → j < S.length) ∧ (∀ C ns xs, m = .ins C ns xs → ∀ x ∈ xs, ∀ j, x = .cl j → j < S.length) ∧ (∀ ks xs, m = .dct ks xs → ∀ x ∈ xs, ∀ j, x = .cl j → j < S.length) := by
        rcases hb k m hk h2 with q | q
        · have c0 := s.cell k a m h1 q
          refine ⟨fun xs hm => ?_, fun C ns xs hm => ?_, fun ks xs hm => ?_⟩
          · subst hm; obtain ⟨_, vs, _, r⟩ := c0; rw [← s.len]; exact r.below
          · subst hm; obtain ⟨_, dx, vs, _, _, r⟩ := c0; rw [← s.len]; exact r.below
          · subst hm; obtain ⟨_, vs, _, _, r⟩ := c0; rw [← s.len]; exact r.below
        · refine ⟨fun xs hm => ?_, fun C ns xs hm => ?_, fun ks xs hm => ?_⟩
          · subst hm; exact noCl.below q
          · subst hm; exact noCl.below q
          · subst hm; exact noCl.below q
      cases m with
      | lst xs => obtain ⟨f, vs, q, r⟩ := c; exact ⟨f, vs, q, by rw [← ea]; exact r.take_of (low.1 xs rfl)⟩
      | ins C ns xs => obtain ⟨f, dx, vs, q, hl', r⟩ := c; exact ⟨f, dx, vs, q, hl', by rw [← ea]; exact r.take_of (low.2.1 C ns xs rfl)⟩
      | dct ks xs => obtain ⟨f, vs, q, hl', r⟩ := c; exact ⟨f, vs, q, hl', by rw [← ea]; exact r.take_of (low.2.2 ks xs rfl)⟩
      | fro d => exact c
    · have q' : as'.g a = some v := by rw [e.gs]; exact q
      obtain ⟨g1, g2, g3⟩ := s'.gh a v q'
      exact ⟨g1, g2, fun hm => g3 (by rw [et]; exact List.mem_append_left _ hm)⟩
  · cases c
theorem cut_app {S1 : Store} (T : Store) (h : S1.length = S.length) (hb : ∀ (k : Nat) (m : MO), S1[k]? = some m → S[k]? = some m ∨ flat m) : cut S (S1 ++ T) = some S1 := by
  unfold cut
  rw [if_pos]
  · rw [← h]; simp
  · refine ⟨by rw [List.length_append, h]; omega, fun k m hk e => ?_⟩
    rw [List.getElem?_append_left (by rw [h]; exact hk)] at e
    exact hb k m e
theorem cut_self (S : Store) : cut S S = some S := by
  have := cut_app (S := S) (S1 := S) [] rfl fun k m e => .inl e
  rwa [List.append_nil] at this
theorem cut_more (S T : Store) : cut S (S ++ T) = some S := cut_app T rfl fun k m e => .inl e
theorem cut_set (S T : Store) (k : Nat) {m : MO} (hm : flat m) : cut S (S.set k m ++ T) = some (S.set k m) := by
  refine cut_app T (List.length_set ..) fun j n e => ?_
  by_cases h : j = k
  · subst h
    by_cases hj : j < S.length
    · rw [List.getElem?_set_self hj] at e; cases e; exact .inr hm
    · rw [List.getElem?_eq_none (by simpa using hj)] at e; cases e
  · rw [List.getElem?_set_ne (Ne.symm h)] at e; exact .inl e
theorem cut_set' (S : Store) (k : Nat) {m : MO} (hm : flat m) : cut S (S.set k m) = some (S.set k m) := by
  have := cut_set S [] k hm
  rwa [List.append_nil] at this
end
end FW

set_option Elab.async false
set_option linter.all false
set_option maxRecDepth 100000
/-! FW, part C: statements, targets, loops, comprehensions, defs. -/
namespace FW
open PySem PySem.Spec PyProof.Rows L2

/-- an outcome of a statement -/
inductive So where
  | nx (ss : Sl) | rt (x : SV) | bk (ss : Sl) | ct (ss : Sl) | er (x : Exn) (ss : Sl)
abbrev SM := Sl → Store → Option (So × Store)
def SCont (K : KW) (W : WX) (F : Hp) (as : AS) (S' : Store) (o : So) (D : Ends) : Prop :=
  ∀ F' as' H', Ext F as F' as' → SRel K F' as' S' H' → match o with
    | .nx ρ => ∀ σ, SlRel K F' as' σ ρ → D.nx σ H'
    | .rt x => ∀ v, VRel K F' as' v x → D.rt v H'
    | .bk ρ => ∀ σ, SlRel K F' as' σ ρ → D.bk σ H'
    | .ct ρ => ∀ σ, SlRel K F' as' σ ρ → D.ct σ H'
    | .er x ρ => ∀ σ c d, SlRel K F' as' σ ρ → XRel K F' H' x c d → W c d σ H'
theorem SCont.step {K : KW} {W : WX} {F F1 : Hp} {as as1 : AS} {S' : Store} {o : So} {D : Ends} (c : SCont K W F as S' o D) (e : Ext F as F1 as1) : SCont K W F1 as1 S' o D :=
  fun F' as' H' x s => c F' as' H' (e.trans x) s
structure FS (X : Cx) (W : WX) (st : Stmt) (g : SM) : Prop where
  ex : ∃ t, PS X st t ∧ ∀ (σ : L2.St) (ss : Sl) (F : Hp) (as : AS) (S : Store) (H : Hp) (D : Ends) (o : So) (S' : Store), SlRel X.kw F as σ ss → SRel X.kw F as S H → g ss S = some (o, S') → SCont X.kw W F as S' o D → t D σ H
structure FSs (X : Cx) (W : WX) (st : List Stmt) (g : SM) : Prop where
  ex : ∃ t, PSs X st t ∧ ∀ (σ : L2.St) (ss : Sl) (F : Hp) (as : AS) (S : Store) (H : Hp) (D : Ends) (o : So) (S' : Store), SlRel X.kw F as σ ss → SRel X.kw F as S H → g ss S = some (o, S') → SCont X.kw W F as S' o D → t D σ H

/-- an expression, then a statement's rest -/
def exS {α : Type} (f : Sl → MM α) (k : α → SM) : SM := fun ss S => match f ss S with
  | some (.ok x, S1) => k x ss S1
  | some (.er x, S1) => some (.er x ss, S1)
  | none => none
theorem stepS {α γ : Type} {K : KW} {W : WX} {F : Hp} {as : AS} {S : Store} {σ : L2.St} {ss : Sl} {f : Sl → MM α} {k : α → SM} {o : So} {S' : Store} {D : Ends}
    {R : γ → Hp → Prop} {T : (γ → Hp → Prop) → Prop} {Rl : Hp → AS → γ → α → Prop}
    (snd : ∀ (Q : γ → Hp → Prop) (o : Ou α) (S' : Store), f ss S = some (o, S') → Cont K (WE W σ) F as S' o (fun x F' as' H' => ∀ v, Rl F' as' v x → Q v H') → T Q)
    (hr : SlRel K F as σ ss) (h : exS f k ss S = some (o, S')) (c : SCont K W F as S' o D)
    (go : ∀ (x : α) (S1 : Store) (F1 : Hp) (as1 : AS) (H1 : Hp) (v : γ), k x ss S1 = some (o, S') → Ext F as F1 as1 → SRel K F1 as1 S1 H1 → Rl F1 as1 v x → SCont K W F1 as1 S' o D → SlRel K F1 as1 σ ss → R v H1) : T R := by
  unfold exS at h
  split at h
  · rename_i x S1 h1
    exact snd R _ _ h1 fun F1 as1 H1 e s v rv => go x S1 F1 as1 H1 v h e s rv (c.step e) (hr.mono e)
  · rename_i x S1 h1
    cases h
    exact snd R _ _ h1 fun F1 as1 H1 e s cl d hx => c F1 as1 H1 e s σ cl d (hr.mono e) hx
  · cases h
theorem stepST {K : KW} {W : WX} {F : Hp} {as : AS} {S : Store} {σ : L2.St} {ss : Sl} {f : Sl → MM Bool} {k : Bool → SM} {o : So} {S' : Store} {D : Ends}
    {R : Bool → Hp → Prop} {T : (Bool → Hp → Prop) → Prop}
    (snd : ∀ (Q : Bool → Hp → Prop) (o : Ou Bool) (S' : Store), f ss S = some (o, S') → Cont K (WE W σ) F as S' o (fun x _ _ H' => Q x H') → T Q)
    (hr : SlRel K F as σ ss) (h : exS f k ss S = some (o, S')) (c : SCont K W F as S' o D)
    (go : ∀ (x : Bool) (S1 : Store) (F1 : Hp) (as1 : AS) (H1 : Hp), k x ss S1 = some (o, S') → Ext F as F1 as1 → SRel K F1 as1 S1 H1 → SCont K W F1 as1 S' o D → SlRel K F1 as1 σ ss → R x H1) : T R := by
  unfold exS at h
  split at h
  · rename_i x S1 h1
    exact snd R _ _ h1 fun F1 as1 H1 e s => go x S1 F1 as1 H1 h e s (c.step e) (hr.mono e)
  · rename_i x S1 h1
    cases h
    exact snd R _ _ h1 fun F1 as1 H1 e s cl d hx => c F1 as1 H1 e s σ cl d (hr.mono e) hx
  · cases h
section
variable {X : Cx} {W : WX}
abbrev VR (X : Cx) : Hp → AS → V → SV → Prop := fun F' as' v x => VRel X.kw F' as' v x
/-! ### blocks -/
def gNx : SM := fun ss S => some (.nx ss, S)
def gSeq (a b : SM) : SM := fun ss S => match a ss S with
  | some (.nx ρ, S1) => b ρ S1
  | some r => some r
  | none => none
theorem fs_nil : FSs X W [] gNx := ⟨_, pss_nil, fun σ ss F as S H D o S' r s h c => by cases h; exact c F as H (Ext.refl F as) s σ r⟩
theorem fs_one {st : Stmt} {g : SM} (h : FS X W st g) : FSs X W [st] g := let ⟨t, p, s⟩ := h.ex; ⟨t, pss_one p, s⟩
theorem fs_cons {st : Stmt} {rest : List Stmt} {a b : SM} (h : FS X W st a) (k : FSs X W rest b) : FSs X W (st :: rest) (gSeq a b) := by
  obtain ⟨t, p, sa⟩ := h.ex
  obtain ⟨u, q, sb⟩ := k.ex
  refine ⟨_, pss_cons p q, fun σ ss F as S H D o S' r s h c => ?_⟩
  unfold gSeq at h
  split at h
  · rename_i ρ S1 h1
    exact sa σ ss F as S H _ _ S1 r s h1 fun F1 as1 H1 e s1 σ1 r1 => sb σ1 ρ F1 as1 S1 H1 D o S' r1 s1 h (c.step e)
  · rename_i o' hn h1
    obtain ⟨o1, S1⟩ := o'
    cases h
    refine sa σ ss F as S H _ _ S' r s h1 fun F1 as1 H1 e s1 => ?_
    have q := c F1 as1 H1 e s1
    cases o with
    | nx ρ => exact absurd rfl (hn ρ S')
    | rt x => exact q
    | bk x => exact q
    | ct x => exact q
    | er x y => exact q
  · cases h
theorem fs_pass {pos : Pos} : FS X W (.Pass pos) gNx := ⟨_, ps_pass, fun σ ss F as S H D o S' r s h c => by cases h; exact c F as H (Ext.refl F as) s σ r⟩
def gBk : SM := fun ss S => some (.bk ss, S)
def gCt : SM := fun ss S => some (.ct ss, S)
theorem fs_break {pos : Pos} : FS X W (.Break pos) gBk := ⟨_, ps_break, fun σ ss F as S H D o S' r s h c => by cases h; exact c F as H (Ext.refl F as) s σ r⟩
theorem fs_cont {pos : Pos} : FS X W (.Continue pos) gCt := ⟨_, ps_continue, fun σ ss F as S H D o S' r s h c => by cases h; exact c F as H (Ext.refl F as) s σ r⟩
theorem fs_doc {x j pos pos'} : FS X W (.Expr (.Constant (.str x) j pos) pos') gNx := ⟨_, ps_doc, fun σ ss F as S H D o S' r s h c => by cases h; exact c F as H (Ext.refl F as) s σ r⟩
def gEx (f : Sl → MM SV) : SM := exS f fun _ => gNx
theorem fs_expr {e : Expr} {f : Sl → MM SV} {pos : Pos} (h : FE X W e f) (hs : swapsWith e none pos.line X.env = pure false := by rfl) : FS X W (.Expr e pos) (gEx f) := by
  obtain ⟨te, p, snd⟩ := h.ex
  refine ⟨_, ps_expr p hs, fun σ ss F as S H D o S' r s h c => ?_⟩
  refine stepS (T := te σ H) (Rl := VR X) (fun Q o S' h c => snd σ ss F as S H Q o S' r s h c) r h c ?_
  intro x S1 F1 as1 H1 v h1 e1 s1 rv c1 r1
  cases h1
  exact c1 F1 as1 H1 (Ext.refl F1 as1) s1 σ r1
def gRet (f : Sl → MM SV) : SM := exS f fun x _ S => some (.rt x, S)
theorem fs_ret {e : Expr} {f : Sl → MM SV} {pos : Pos} (h : FE X W e f) : FS X W (.Return (some e) pos) (gRet f) := by
  obtain ⟨te, p, snd⟩ := h.ex
  refine ⟨_, ps_ret p, fun σ ss F as S H D o S' r s h c => ?_⟩
  refine stepS (T := te σ H) (Rl := VR X) (fun Q o S' h c => snd σ ss F as S H Q o S' r s h c) r h c ?_
  intro x S1 F1 as1 H1 v h1 e1 s1 rv c1 r1
  cases h1
  exact c1 F1 as1 H1 (Ext.refl F1 as1) s1 v rv
def gRetN : SM := fun _ S => some (.rt (.sh .non), S)
theorem fs_retN {pos : Pos} : FS X W (.Return none pos) gRetN := ⟨_, ps_retN, fun σ ss F as S H D o S' r s h c => by cases h; exact c F as H (Ext.refl F as) s .non .non⟩
def gIf (t : Sl → MM Bool) (a b : SM) : SM := exS t fun c => if c = true then a else b
theorem fs_if {c : Expr} {a b : List Stmt} {t : Sl → MM Bool} {f k : SM} {pos : Pos} (hc : FT X W c t) (ha : FSs X W a f) (hb : FSs X W b k) : FS X W (.If c a b pos) (gIf t f k) := by
  obtain ⟨tc, pc, sc⟩ := hc.ex
  obtain ⟨ta, pa, sa⟩ := ha.ex
  obtain ⟨tb, pb, sb⟩ := hb.ex
  refine ⟨_, ps_if pc pa pb, fun σ ss F as S H D o S' r s h c => ?_⟩
  refine stepST (T := tc σ H) (fun Q o S' h c => sc σ ss F as S H Q o S' r s h c) r h c ?_
  intro x S1 F1 as1 H1 h1 e1 s1 c1 r1
  cases x with
  | true => exact sa σ ss F1 as1 S1 H1 D o S' r1 s1 h1 c1
  | false => exact sb σ ss F1 as1 S1 H1 D o S' r1 s1 h1 c1

/-! ### targets -/
abbrev GM := SV → Sl → Store → Option (Sl × Store)
structure FG (X : Cx) (tg : Expr) (g : GM) : Prop where
  ex : ∃ t, PG X tg t ∧ ∀ (v : V) (x : SV) (σ : L2.St) (ss : Sl) (F : Hp) (as : AS) (S : Store) (H : Hp) (Q : L2.St → Hp → Prop) (ρ : Sl) (S' : Store), VRel X.kw F as v x → SlRel X.kw F as σ ss → SRel X.kw F as S H → g x ss S = some (ρ, S') →
    (∀ F' as' H' σ', Ext F as F' as' → SRel X.kw F' as' S' H' → SlRel X.kw F' as' σ' ρ → Q σ' H') → t v σ H Q
structure FGs (X : Cx) (tg : List Expr) (g : List SV → Sl → Store → Option (Sl × Store)) : Prop where
  ex : ∃ t, PGs X tg t ∧ ∀ (v : List V) (x : List SV) (σ : L2.St) (ss : Sl) (F : Hp) (as : AS) (S : Store) (H : Hp) (Q : L2.St → Hp → Prop) (ρ : Sl) (S' : Store), VsRel X.kw F as v x → SlRel X.kw F as σ ss → SRel X.kw F as S H → g x ss S = some (ρ, S') →
    (∀ F' as' H' σ', Ext F as F' as' → SRel X.kw F' as' S' H' → SlRel X.kw F' as' σ' ρ → Q σ' H') → t v σ H Q
def tgN (i : Nat) : GM := fun x ss S => some (ss.set i (some x), S)
theorem fg_name {i : Nat} {x : Str} {pos : Pos} (hN : X.N.Nodup) (hi : X.N[i]? = some x) (hx : Loc X.env.scope x) (hf : X.fn x = true ∨ X.env.scope.names.lookup x = some .local := by first | exact .inl rfl | exact .inr rfl | assumption) : FG X (.Name x pos) (tgN i) :=
  ⟨_, pg_name hN hi hx hf, fun v x σ ss F as S H Q ρ S' rv r s h c => by cases h; exact c F as H _ (Ext.refl F as) s (r.set i rv)⟩
def tgNil : List SV → Sl → Store → Option (Sl × Store) := fun xs ss S => match xs with
  | [] => some (ss, S)
  | _ => none
def tgCons (a : GM) (b : List SV → Sl → Store → Option (Sl × Store)) : List SV → Sl → Store → Option (Sl × Store) := fun xs ss S => match xs with
  | [] => none
  | x :: r => match a x ss S with
    | some (ρ, S1) => b r ρ S1
    | none => none
theorem fgs_nil : FGs X [] tgNil := ⟨_, pgs_nil, fun v x σ ss F as S H Q ρ S' rv r s h c => by
  cases rv with
  | nil => cases h; exact ⟨rfl, c F as H σ (Ext.refl F as) s r⟩
  | cons _ _ => cases h⟩
theorem fgs_cons {e : Expr} {es : List Expr} {a : GM} {b : List SV → Sl → Store → Option (Sl × Store)} (h1 : FG X e a) (h2 : FGs X es b)
    (hs : (assignEach (e :: es) X.env).map (·.2) = assign e X.env :: (assignEach es X.env).map (·.2) := by rfl) : FGs X (e :: es) (tgCons a b) := by
  obtain ⟨ta, pa, sa⟩ := h1.ex
  obtain ⟨tb, pb, sb⟩ := h2.ex
  refine ⟨_, pgs_cons pa pb hs, fun v x σ ss F as S H Q ρ S' rv r s h c => ?_⟩
  cases rv with
  | nil => cases h
  | @cons v x vs xs rv rvs =>
    unfold tgCons at h
    simp only at h
    split at h
    · rename_i ρ1 S1 h1
      refine ⟨v, vs, rfl, sa v x σ ss F as S H _ ρ1 S1 rv r s h1 fun F1 as1 H1 σ1 e1 s1 r1 => ?_⟩
      exact sb vs xs σ1 ρ1 F1 as1 S1 H1 Q ρ S' (VsRel.mono e1 rvs) r1 s1 h fun F2 as2 H2 σ2 e2 s2 r2 => c F2 as2 H2 σ2 (e1.trans e2) s2 r2
    · cases h
def tgT (n : Nat) (b : List SV → Sl → Store → Option (Sl × Store)) : GM := fun x ss S => match x with
  | .sh (.tup ds) => if ds.length = n then b (ds.map SV.sh) ss S else none
  | _ => none
theorem fg_tup {es : List Expr} {k : Nat} {n : Nat} {b : List SV → Sl → Store → Option (Sl × Store)} {pos : Pos} (hc : X.calm = true) (h : FGs X es b)
    (hn : (assignEach es X.env).length = n := by rfl) (hst : (assignEach es X.env).findIdx? (·.1) = none := by rfl) : FG X (.Tuple es k pos) (tgT n b) := by
  obtain ⟨tb, pb, sb⟩ := h.ex
  refine ⟨_, pg_tup hc pb hn hst, fun v x σ ss F as S H Q ρ S' rv r s h c => ?_⟩
  unfold tgT at h
  split at h
  · rename_i ds
    split at h
    · rename_i hl
      cases rv with
      | @tup a vs ds hh rr =>
        exact ⟨a, vs, rfl, SqT.of (s.ff _ _ hh), by rw [rr.length]; exact hl, sb vs _ σ ss F as S H Q ρ S' (VsRel.sh rr) r s h c⟩
    · cases h
  · cases h
/-- the same, the value a list -/
def tgL (n : Nat) (b : List SV → Sl → Store → Option (Sl × Store)) : GM := fun x ss S => match x with
  | .sh (.lst ds) => if ds.length = n then b (ds.map SV.sh) ss S else none
  | _ => none
theorem fg_lst {es : List Expr} {k : Nat} {n : Nat} {b : List SV → Sl → Store → Option (Sl × Store)} {pos : Pos} (hc : X.calm = true) (h : FGs X es b)
    (hn : (assignEach es X.env).length = n := by rfl) (hst : (assignEach es X.env).findIdx? (·.1) = none := by rfl) : FG X (.Tuple es k pos) (tgL n b) := by
  obtain ⟨tb, pb, sb⟩ := h.ex
  refine ⟨_, pg_lst hc pb hn hst, fun v x σ ss F as S H Q ρ S' rv r s h c => ?_⟩
  unfold tgL at h
  split at h
  · rename_i ds
    split at h
    · rename_i hl
      cases rv with
      | @lst a vs ds hh rr =>
        exact ⟨a, vs, rfl, SqL.of (s.ff _ _ hh), by rw [rr.length]; exact hl, sb vs _ σ ss F as S H Q ρ S' (VsRel.sh rr) r s h c⟩
    · cases h
  · cases h
def gAs (f : Sl → MM SV) (g : GM) : SM := exS f fun x ss S => match g x ss S with
  | some (ρ, S1) => some (.nx ρ, S1)
  | none => none
theorem tAsg_ok {te : TE} {t : TG} {f : Sl → MM SV} {g : GM}
    (snd : ∀ (σ : L2.St) (ss : Sl) (F : Hp) (as : AS) (S : Store) (H : Hp) (Q : VK) (o : Ou SV) (S' : Store), SlRel X.kw F as σ ss → SRel X.kw F as S H → f ss S = some (o, S') → Cont X.kw (WE W σ) F as S' o (fun x F' as' H' => ∀ v, VRel X.kw F' as' v x → Q v H') → te σ H Q)
    (sg : ∀ (v : V) (x : SV) (σ : L2.St) (ss : Sl) (F : Hp) (as : AS) (S : Store) (H : Hp) (Q : L2.St → Hp → Prop) (ρ : Sl) (S' : Store), VRel X.kw F as v x → SlRel X.kw F as σ ss → SRel X.kw F as S H → g x ss S = some (ρ, S') →
      (∀ F' as' H' σ', Ext F as F' as' → SRel X.kw F' as' S' H' → SlRel X.kw F' as' σ' ρ → Q σ' H') → t v σ H Q)
    (σ : L2.St) (ss : Sl) (F : Hp) (as : AS) (S : Store) (H : Hp) (D : Ends) (o : So) (S' : Store) (r : SlRel X.kw F as σ ss) (s : SRel X.kw F as S H) (h : gAs f g ss S = some (o, S')) (c : SCont X.kw W F as S' o D) : tAsg te t D σ H := by
  refine stepS (T := te σ H) (Rl := VR X) (fun Q o S' h c => snd σ ss F as S H Q o S' r s h c) r h c ?_
  intro x S1 F1 as1 H1 v h1 e1 s1 rv c1 r1
  split at h1
  · rename_i ρ S2 h2
    cases h1
    exact sg v x σ ss F1 as1 S1 H1 D.nx ρ S' rv r1 s1 h2 fun F2 as2 H2 σ2 e2 s2 r2 => c1 F2 as2 H2 e2 s2 σ2 r2
  · cases h1
theorem fs_set {i : Nat} {x : Str} {e : Expr} {f : Sl → MM SV} {pos pos' : Pos} (hN : X.N.Nodup) (hi : X.N[i]? = some x) (hx : Loc X.env.scope x) (he : FE X W e f) (hs : swapsWith e (some (.Name x pos')) pos.line X.env = pure false := by rfl) (hf : X.fn x = true ∨ X.env.scope.names.lookup x = some .local := by first | exact .inl rfl | exact .inr rfl | assumption) :
    FS X W (.Assign [.Name x pos'] e pos) (gAs f (tgN i)) := by
  obtain ⟨te, p, snd⟩ := he.ex
  exact ⟨_, ps_set hN hi hx p hs hf, tAsg_ok snd fun v x σ ss F as S H Q ρ S' rv r s h c => by cases h; exact c F as H _ (Ext.refl F as) s (r.set i rv)⟩
theorem fs_asg {tg e : Expr} {f : Sl → MM SV} {g : GM} {pos : Pos} (he : FE X W e f) (hg : FG X tg g) (hs : swapsWithSole [tg] e pos.line X.env = pure false := by rfl) (hw : swappedStores [tg] e X.env = pure none := by rfl)
    (h1 : (assignEach [tg] X.env).map (·.2) = [assign tg X.env] := by rfl) : FS X W (.Assign [tg] e pos) (gAs f g) := by
  obtain ⟨te, p, snd⟩ := he.ex
  obtain ⟨t, q, sg⟩ := hg.ex
  exact ⟨_, ps_asg p q hs hw h1, tAsg_ok snd sg⟩
/-- o[i] = .. of an own list -/
def setI (x i v : SV) (S : Store) : Option Store := match x, i with
  | .cl k, .sh (.int j) => match S[k]? with
    | some (.lst xs) => match ixN xs.length j with
      | some n => some (S.set k (.lst (xs.set n v)))
      | none => none
    | _ => none
  | _, _ => none
def tgI (f k : Sl → MM SV) : GM := fun v ss S => match MM.bind (f ss) (fun x => MM.bind (k ss) fun i => ret (x, i)) S with
  | some (.ok (x, i), S1) => (setI x i v S1).map fun S2 => (ss, S2)
  | _ => none
theorem VsRel.set {K : KW} {F : Hp} {as : AS} {v : V} {x : SV} (q : VRel K F as v x) : ∀ {vs : List V} {xs : List SV} (n : Nat), VsRel K F as vs xs → VsRel K F as (vs.set n v) (xs.set n x)
  | _, _, _, .nil => .nil
  | _, _, 0, .cons _ r => .cons q r
  | _, _, n + 1, .cons a r => .cons a (VsRel.set q n r)
theorem setI_ok {K : KW} {F H : Hp} {as : AS} {S S' : Store} {v vi : V} {x i y : SV} {w : V} (s : SRel K F as S H) (r : VRel K F as v x) (ri : VRel K F as vi i) (rw' : VRel K F as w y) (h : setI x i y S = some S') :
    ∃ p xs k j, v = .ref p ∧ vi = .int k ∧ H p = some (.lst xs) ∧ ixN xs.length k = some j ∧ SRel K F as S' (upd H p (.lst (xs.set j w))) := by
  unfold setI at h
  split at h
  · rename_i kk j
    split at h
    · rename_i xs hx
      split at h
      · rename_i n hn
        cases h
        obtain ⟨a, ha, rfl⟩ := r
        obtain ⟨f, vs, hv, rv⟩ := s.cell kk a _ ha hx
        refine ⟨a, vs, j, n, rfl, Rep.int_of ri, hv, by rw [Paired.length rv]; exact hn, s.write ha f ⟨f, _, upd_same, VsRel.set rw' n rv⟩⟩
      · cases h
    · cases h
  · cases h
theorem fg_sub {o i : Expr} {f k : Sl → MM SV} {pos : Pos} (ho : FE X (fun _ _ _ _ => False) o f) (hi : FE X (fun _ _ _ _ => False) i k)
    (ha : ∀ v, assign (.Subscript o i pos) X.env v = (do
      let ov ← holding [v] (eval o X.env)
      let iv ← holding [v, ov] (eval i X.env)
      standAt pos
      holding [v, ov, iv] (setItem ov iv v)
      release [v, ov, iv] []) := by intro _; rfl) : FG X (.Subscript o i pos) (tgI f k) := by
  obtain ⟨ta, pa, sa⟩ := ho.ex
  obtain ⟨tb, pb, sb⟩ := hi.ex
  refine ⟨_, pg_sub pa pb set_list ha, fun v y σ ss F as S H Q ρ S' rv r s h c => ?_⟩
  unfold tgI at h
  split at h
  · rename_i x j S1 h1
    rcases bindE h1 with ⟨x0, S0, h2, h3⟩ | ⟨x0, S0, _, h3⟩
    · rcases bindE h3 with ⟨i0, S2, h4, h5⟩ | ⟨i0, S2, _, h5⟩
      · cases h5
        refine sa σ ss F as S H _ _ S0 r s h2 fun F1 as1 H1 e1 s1 w rw' => ?_
        refine sb σ ss F1 as1 S0 H1 _ _ S1 (r.mono e1) s1 h4 fun F2 as2 H2 e2 s2 z rz => ?_
        cases q : setI x j y S1 with
        | none => rw [q] at h; cases h
        | some S3 =>
          rw [q] at h; cases h
          obtain ⟨p, xs, kk, jj, e3, e4, hH, hj, s3⟩ := setI_ok s2 (rw'.mono e2) rz ((rv.mono e1).mono e2) q
          exact ⟨p, xs, kk, jj, e3, e4, hH, hj, c F2 as2 _ σ (e1.trans e2) s3 ((r.mono e1).mono e2)⟩
      · cases h5
    · cases h3
  · cases h
/-- x op= e -/
def gAug (i : Nat) (c : Bool) (g : D → D → Option An) (f : Sl → MM SV) : SM := fun ss S => match ss[i]? with
  | some (some x) => exS (fun ss => MM.bind (f ss) fun y => s2 c g x y) (fun z ss S => some (.nx (ss.set i (some z)), S)) ss S
  | _ => none
theorem fs_aug {i : Nat} {x : Str} {e : Expr} {f : Sl → MM SV} {op : Operator} {r : R2} {g : D → D → Option An} {pos pos' : Pos} (c : Bool) (hN : X.N.Nodup) (hi : X.N[i]? = some x) (hx : Loc X.env.scope x) (he : FE X W e f) (ho : OpR X (inplaceOp op) r) (hs : Snd2 X.kw r g)
    (hf : X.fn x = true ∨ X.env.scope.names.lookup x = some .local := by first | exact .inl rfl | exact .inr rfl | assumption) : FS X W (.AugAssign (.Name x pos') op e pos) (gAug i c g f) := by
  obtain ⟨te, p, snd⟩ := he.ex
  refine ⟨_, ps_aug (ti := r) hN hi hx p ho hf, fun σ ss F as S H D o S' hr s h cn => ?_⟩
  unfold gAug at h
  split at h
  · rename_i y hy
    obtain ⟨v, hv, rv⟩ := hr.at_ i y hy
    refine ⟨v, hv, ?_⟩
    refine stepS (T := fun R => te σ H fun y H1 => r v y H1 R) (R := fun z H2 => D.nx (σ.set i (some z)) H2) (Rl := VR X) (fun Q o S' h c' => ?_) hr h cn ?_
    · refine step (T := te σ H) (Rl := VR X) (fun Q o S' h c => snd σ ss F as S H Q o S' hr s h c) h c' ?_
      intro z S1 F1 as1 H1 w h1 e1 s1 rw' c1
      exact s2_ok hs s1 (rv.mono e1) rw' h1 c1
    · intro z S1 F1 as1 H1 w h1 e1 s1 rz c1 r1
      cases h1
      exact c1 F1 as1 H1 (Ext.refl F1 as1) s1 _ (r1.set i rz)
  · cases h

/-! ### what a loop walks -/
/-- the turns are these values -/
structure Yields (K : KW) (F : Hp) (J : It) (ds : List D) : Prop where
  go : ∀ (i : Nat) (H : Hp), Same F H → i < ds.length → J.go i H
  stop : ∀ (H : Hp), Same F H → J.stop ds.length H
  yld : ∀ (i : Nat) (H : Hp) (x : V) (H' : Hp) (d : D), Same F H → J.yld i H x H' → ds[i]? = some d →
    (H' = H ∧ Rep K F x d) ∨ ∃ T vs es, x = .ref T ∧ H T = none ∧ H' = upd H T (.tup vs) ∧ d = .tup es ∧ RepL K F vs es
theorem Yields.mono {K : KW} {F F' : Hp} {J : It} {ds : List D} (y : Yields K F J ds) (e : Same F F') : Yields K F' J ds :=
  ⟨fun i H s h => y.go i H (e.trans s) h, fun H s => y.stop H (e.trans s), fun i H x H' d s h q => by
    rcases y.yld i H x H' d (e.trans s) h q with ⟨a, b⟩ | ⟨T, vs, es, a, b, c, f, g⟩
    · exact .inl ⟨a, b.mono e⟩
    · exact .inr ⟨T, vs, es, a, b, c, f, g.mono e⟩⟩
structure FI (X : Cx) (W : WX) (tg iter : Expr) (f : Sl → MM (List D)) : Prop where
  ex : ∃ wi, PI X tg iter wi ∧ ∀ (σ : L2.St) (ss : Sl) (F : Hp) (as : AS) (S : Store) (H : Hp) (R : It → Hp → Prop) (o : Ou (List D)) (S' : Store), SlRel X.kw F as σ ss → SRel X.kw F as S H → f ss S = some (o, S') →
    Cont X.kw (WE W σ) F as S' o (fun ds F' as' H' => ∀ J, Yields X.kw F' J ds → R J H') → wi σ H R
def itL (f : Sl → MM SV) : Sl → MM (List D) := fun ss => MM.bind (f ss) fun x => MM.bind (frz x) fun d S => match d with
  | .lst ds => some (.ok ds, S)
  | .scr ds => some (.ok ds, S)
  | _ => none
theorem fi_list {tg e : Expr} {f : Sl → MM SV} (h : FE X W e f) : FI X W tg e (itL f) := by
  obtain ⟨te, p, snd⟩ := h.ex
  refine ⟨_, pi_list p, fun σ ss F as S H R o S' hr s h c => ?_⟩
  refine step (T := te σ H) (Rl := VR X) (fun Q o S' h c => snd σ ss F as S H Q o S' hr s h c) h c ?_
  intro x S1 F1 as1 H1 v h1 e1 s1 rv c1
  rcases bindE h1 with ⟨d, S2, h2, h3⟩ | ⟨d, S2, h2, h3⟩
  · obtain ⟨d', F2, ed, x2, s2, rd⟩ := frz_ok s1 rv h2
    cases ed
    split at h3
    · rename_i ds
      cases h3
      cases rd with
      | @lst a vs ds hh rr =>
        have q := c1 F2 as1 H1 x2 s2 (Itl X.K a) ?_
        · exact ⟨a, rfl, ⟨vs, SqL.of (s2.ff _ _ hh)⟩, q⟩
        · refine ⟨fun i H s h => ?_, fun H s => ⟨vs, SqL.of (s _ _ hh), by rw [rr.length]; exact Nat.le_refl _⟩, fun i H x H' d s h q => ?_⟩
          · have hi : i < vs.length := by rw [rr.length]; exact h
            exact ⟨vs, vs[i], SqL.of (s _ _ hh), List.getElem?_eq_getElem hi⟩
          · obtain ⟨v, hv, rv⟩ := rr.get q
            have e := h.2 vs (SqL.of (s _ _ hh))
            rw [hv] at e; cases e
            exact .inl ⟨h.1, rv⟩
    · rename_i ds
      cases h3
      cases rd with
      | @scr a vs ds hh rr =>
        have q := c1 F2 as1 H1 x2 s2 (Itl X.K a) ?_
        · exact ⟨a, rfl, ⟨vs, s2.ff.seq hh⟩, q⟩
        · refine ⟨fun i H s h => ?_, fun H s => ⟨vs, s.seq hh, by rw [rr.length]; exact Nat.le_refl _⟩, fun i H x H' d s h q => ?_⟩
          · have hi : i < vs.length := by rw [rr.length]; exact h
            exact ⟨vs, vs[i], s.seq hh, List.getElem?_eq_getElem hi⟩
          · obtain ⟨v, hv, rv⟩ := rr.get q
            have e := h.2 vs (s.seq hh)
            rw [hv] at e; cases e
            exact .inl ⟨h.1, rv⟩
    · cases h3
  · obtain ⟨d', F2, ed, x2, s2, rd⟩ := frz_ok s1 rv h2
    cases ed
def itT (f : Sl → MM SV) : Sl → MM (List D) := fun ss => MM.bind (f ss) fun x S => match x with
  | .sh (.tup ds) => some (.ok ds, S)
  | _ => none
theorem fi_tup {tg e : Expr} {f : Sl → MM SV} (h : FE X W e f) : FI X W tg e (itT f) := by
  obtain ⟨te, p, snd⟩ := h.ex
  refine ⟨_, pi_tup p, fun σ ss F as S H R o S' hr s h c => ?_⟩
  refine step (T := te σ H) (Rl := VR X) (fun Q o S' h c => snd σ ss F as S H Q o S' hr s h c) h c ?_
  intro x S1 F1 as1 H1 v h1 e1 s1 rv c1
  split at h1
  · rename_i ds
    cases h1
    cases rv with
    | @tup a vs ds hh rr =>
      have q := c1 F1 as1 H1 (Ext.refl F1 as1) s1 (Itt X.K a) ?_
      · exact ⟨a, rfl, ⟨vs, SqT.of (s1.ff _ _ hh)⟩, q⟩
      · refine ⟨fun i H s h => ?_, fun H s => ⟨vs, SqT.of (s _ _ hh), by rw [rr.length]; exact Nat.le_refl _⟩, fun i H x H' d s h q => ?_⟩
        · have hi : i < vs.length := by rw [rr.length]; exact h
          exact ⟨vs, vs[i], SqT.of (s _ _ hh), List.getElem?_eq_getElem hi⟩
        · obtain ⟨v, hv, rv⟩ := rr.get q
          have e := h.2 vs (SqT.of (s _ _ hh))
          rw [hv] at e; cases e
          exact .inl ⟨h.1, rv⟩
  · cases h1
/-- the signs of a text -/
def signs (z : Str) : List D := z.cps.toList.map fun c => D.str ⟨#[c]⟩
def itS (f : Sl → MM SV) : Sl → MM (List D) := fun ss => MM.bind (f ss) fun x S => match x with
  | .sh (.str z) => some (.ok (signs z), S)
  | _ => none
theorem fi_str {tg e : Expr} {f : Sl → MM SV} (h : FE X W e f) : FI X W tg e (itS f) := by
  obtain ⟨te, p, snd⟩ := h.ex
  refine ⟨_, pi_str p, fun σ ss F as S H R o S' hr s h c => ?_⟩
  refine step (T := te σ H) (Rl := VR X) (fun Q o S' h c => snd σ ss F as S H Q o S' hr s h c) h c ?_
  intro x S1 F1 as1 H1 v h1 e1 s1 rv c1
  split at h1
  · rename_i z
    cases h1
    refine ⟨z, Rep.str_of rv, c1 F1 as1 H1 (Ext.refl F1 as1) s1 (Its z) ⟨fun i H s h => ?_, fun H s => ?_, fun i H x H' d s h q => ?_⟩⟩
    · show i < z.cps.size
      simpa [signs] using h
    · show z.cps.size ≤ (signs z).length
      simp [signs]
    · obtain ⟨e, c, hc, rfl⟩ := h
      have q' : (z.cps.toList.map fun c => D.str ⟨#[c]⟩)[i]? = some d := q
      rw [List.getElem?_map, Array.getElem?_toList, hc] at q'
      cases q'
      exact .inl ⟨e, .str _⟩
  · cases h1
def rng (lo hi : Int) : List D := (List.range (hi - lo).toNat).map fun i => D.int (lo + (i : Nat))
theorem rng_yields {K : KW} {F : Hp} (lo : Int) (n : Nat) : Yields K F (Itr lo n) ((List.range n).map fun i => D.int (lo + (i : Nat))) := by
  refine ⟨fun i H s h => by show i < n; simpa using h, fun H s => by show n ≤ _; simp, fun i H x H' d s h q => ?_⟩
  obtain ⟨e, rfl⟩ := h
  rw [List.getElem?_map] at q
  cases e2 : (List.range n)[i]? with
  | none => rw [e2] at q; cases q
  | some j =>
    rw [e2] at q; cases q
    have : j = i := by
      have := List.getElem?_eq_some_iff.mp e2
      obtain ⟨h, e⟩ := this
      simp at e; exact e.symm
    subst this
    exact .inl ⟨e, .int _⟩
def okR (i : Int) : Prop := -(2 ^ 62) ≤ i ∧ i < 2 ^ 62
instance (i : Int) : Decidable (okR i) := inferInstanceAs (Decidable (_ ∧ _))
def itR1 (f : Sl → MM (List SV)) : Sl → MM (List D) := fun ss => MM.bind (f ss) fun xs S => match xs with
  | [.sh (.int j)] => if okR j then some (.ok (rng 0 j), S) else none
  | _ => none
def itR2 (f : Sl → MM (List SV)) : Sl → MM (List D) := fun ss => MM.bind (f ss) fun xs S => match xs with
  | [.sh (.int i), .sh (.int j)] => if okR i ∧ okR j then some (.ok (rng i j), S) else none
  | _ => none
theorem fi_range1 {tg a : Expr} {f : Sl → MM (List SV)} {p pos : Pos} (hg : Gl X "range") (hm : X.mg "range" = none) (ha : FA X W [a] f) (hs : starEach [a] X.env = [(false, eval a X.env)] := by rfl) : FI X W tg (.Call (.Name "range" p) [a] [] pos) (itR1 f) := by
  obtain ⟨ta, pa, snd⟩ := ha.ex
  refine ⟨_, pi_range1 hg hm pa hs, fun σ ss F as S H R o S' hr s h c => ?_⟩
  refine step (T := ta σ H) (Rl := fun F' as' v x => VsRel X.kw F' as' v x) (fun Q o S' h c => snd σ ss F as S H Q o S' hr s h c) h c ?_
  intro x S1 F1 as1 H1 v h1 e1 s1 rv c1
  split at h1
  · rename_i j
    split at h1
    · rename_i hj
      cases h1
      cases rv with
      | cons rv rn =>
        cases rn
        have q := c1 F1 as1 H1 (Ext.refl F1 as1) s1 (Itr 0 j.toNat) (by have := rng_yields (K := X.kw) (F := F1) 0 j.toNat; unfold rng; rw [Int.sub_zero]; exact this)
        exact ⟨j, by rw [Rep.int_of rv], hj.1, hj.2, q⟩
    · cases h1
  · cases h1
theorem fi_range2 {tg a b : Expr} {f : Sl → MM (List SV)} {p pos : Pos} (hg : Gl X "range") (hm : X.mg "range" = none) (ha : FA X W [a, b] f) (hs : starEach [a, b] X.env = [(false, eval a X.env), (false, eval b X.env)] := by rfl) (hs2 : starEach [b] X.env = [(false, eval b X.env)] := by rfl) : FI X W tg (.Call (.Name "range" p) [a, b] [] pos) (itR2 f) := by
  obtain ⟨ta, pa, snd⟩ := ha.ex
  refine ⟨_, pi_range2 hg hm pa hs hs2, fun σ ss F as S H R o S' hr s h c => ?_⟩
  refine step (T := ta σ H) (Rl := fun F' as' v x => VsRel X.kw F' as' v x) (fun Q o S' h c => snd σ ss F as S H Q o S' hr s h c) h c ?_
  intro x S1 F1 as1 H1 v h1 e1 s1 rv c1
  split at h1
  · rename_i i j
    split at h1
    · rename_i hj
      cases h1
      cases rv with
      | cons rv rn =>
        cases rn with
        | cons rw' rn =>
          cases rn
          have q := c1 F1 as1 H1 (Ext.refl F1 as1) s1 (Itr i (j - i).toNat) (rng_yields i (j - i).toNat)
          exact ⟨i, j, by rw [Rep.int_of rv, Rep.int_of rw'], ⟨hj.1.1, hj.1.2, hj.2.1, hj.2.2⟩, q⟩
    · cases h1
  · cases h1

/-! ### for -/
def forL (g : GM) (b : SM) : List D → SM
  | [] => gNx
  | d :: r => fun ss S => match g (.sh d) ss S with
    | none => none
    | some (ρ, S1) => match b ρ S1 with
      | some (.nx ρ', S2) => forL g b r ρ' S2
      | some (.ct ρ', S2) => forL g b r ρ' S2
      | some (.bk ρ', S2) => some (.nx ρ', S2)
      | q => q
def gFor (f : Sl → MM (List D)) (g : GM) (b : SM) : SM := exS f fun ds => forL g b ds
theorem fs_for {tg iter : Expr} {body : List Stmt} {f : Sl → MM (List D)} {g : GM} {b : SM} {pos : Pos} (hp : PassesOwn (model X.prog X.w) X.A X.env X.xe) (hc : X.calm = true) (hi : FI X W tg iter f) (hg : FG X tg g) (hb : FSs X W body b)
    (hs : ∀ x, foldedSetIterable iter X.env x = pure x := by intro _; rfl) : FS X W (.For tg iter body [] pos) (gFor f g b) := by
  obtain ⟨wi, pi, si⟩ := hi.ex
  obtain ⟨tg', pg, sg⟩ := hg.ex
  obtain ⟨tb, pb, sb⟩ := hb.ex
  refine ⟨_, ps_for hp hc pi pg pb hs, fun σ ss F as S H D o S' hr s h c => ?_⟩
  unfold gFor exS at h
  split at h
  · rename_i ds S1 h1
    refine si σ ss F as S H _ _ S1 hr s h1 fun F1 as1 H1 e1 s1 J y => ?_
    refine ⟨fun i m σ H => m = ds.length - i ∧ i ≤ ds.length ∧ ∃ ρ S2 F2 as2, Ext F1 as1 F2 as2 ∧ SRel X.kw F2 as2 S2 H ∧ SlRel X.kw F2 as2 σ ρ ∧ forL g b (ds.drop i) ρ S2 = some (o, S'), ⟨ds.length, by simp, Nat.zero_le _, ss, S1, F1, as1, Ext.refl _ _, s1, hr.mono e1, h⟩, ?_⟩
    rintro i m σ2 H2 ⟨rfl, hi, ρ, S2, F2, as2, e2, s2, r2, h2⟩
    by_cases hlt : i < ds.length
    · refine .inr ⟨y.go i H2 (e2.same.trans s2.ff) hlt, _, fun σ' H' w => ⟨ds.length - (i + 1), by omega, w⟩, fun x H' hy => ?_⟩
      have hd : ds.drop i = ds[i] :: ds.drop (i + 1) := List.drop_eq_getElem_cons hlt
      rw [hd] at h2
      unfold forL at h2
      have go : ∀ (F3 : Hp), Ext F2 as2 F3 as2 → SRel X.kw F3 as2 S2 H' → VRel X.kw F3 as2 x (.sh ds[i]) → tg' x σ2 H' fun σ3 H3 => tb { D with nx := fun σ H => ds.length - (i + 1) = ds.length - (i + 1) ∧ i + 1 ≤ ds.length ∧ ∃ ρ S2 F2 as2, Ext F1 as1 F2 as2 ∧ SRel X.kw F2 as2 S2 H ∧ SlRel X.kw F2 as2 σ ρ ∧ forL g b (ds.drop (i + 1)) ρ S2 = some (o, S'), ct := fun σ H => ds.length - (i + 1) = ds.length - (i + 1) ∧ i + 1 ≤ ds.length ∧ ∃ ρ S2 F2 as2, Ext F1 as1 F2 as2 ∧ SRel X.kw F2 as2 S2 H ∧ SlRel X.kw F2 as2 σ ρ ∧ forL g b (ds.drop (i + 1)) ρ S2 = some (o, S'), bk := D.nx } σ3 H3 := by
        intro F3 e3 s3 rx
        split at h2
        · cases h2
        · rename_i ρ3 S3 h3
          refine sg x _ σ2 ρ F3 as2 S2 H' _ ρ3 S3 rx (r2.mono e3) s3 h3 fun F4 as4 H4 σ4 e4 s4 r4 => ?_
          have e14 : Ext F1 as1 F4 as4 := (e2.trans e3).trans e4
          cases hb4 : b ρ3 S3 with
          | none => simp only [hb4] at h2; cases h2
          | some q4 =>
            obtain ⟨o4, S4⟩ := q4
            simp only [hb4] at h2
            refine sb σ4 ρ3 F4 as4 S3 H4 _ o4 S4 r4 s4 hb4 fun F5 as5 H5 e5 s5 => ?_
            have e15 := e14.trans e5
            cases o4 with
            | nx ρ5 => exact fun σ5 r5 => ⟨rfl, hlt, ρ5, S4, F5, as5, e15, s5, r5, h2⟩
            | ct ρ5 => exact fun σ5 r5 => ⟨rfl, hlt, ρ5, S4, F5, as5, e15, s5, r5, h2⟩
            | bk ρ5 => cases h2; exact fun σ5 r5 => c F5 as5 H5 (e1.trans e15) s5 σ5 r5
            | rt z => cases h2; exact c F5 as5 H5 (e1.trans e15) s5
            | er z ρ5 => cases h2; exact c F5 as5 H5 (e1.trans e15) s5
      rcases y.yld i H2 x H' ds[i] (e2.same.trans s2.ff) hy (List.getElem?_eq_getElem hlt) with ⟨rfl, rx⟩ | ⟨T, vs, es, rfl, hT, rfl, hes, rvs⟩
      · exact go F2 (Ext.refl _ _) s2 (rx.mono e2.same)
      · obtain ⟨s3, x3, v3⟩ := s2.laidT hT (rvs.mono e2.same)
        exact go _ x3 s3 (by rw [hes]; exact v3)
    · have e : i = ds.length := by omega
      subst e
      rw [List.drop_length] at h2
      cases h2
      exact .inl ⟨y.stop H2 (e2.same.trans s2.ff), c F2 as2 H2 (e1.trans e2) s2 σ2 r2⟩
  · rename_i x S1 h1
    cases h
    exact si σ ss F as S H _ _ _ hr s h1 fun F1 as1 H1 e1 s1 cl d hx => c F1 as1 H1 e1 s1 σ cl d (hr.mono e1) hx
  · cases h

/-! ### while -/
def whileL (t : Sl → MM Bool) (b : SM) : Nat → SM
  | 0 => fun _ _ => none
  | n + 1 => exS t fun c => if c = true then fun ss S => (match b ss S with
      | some (.nx ρ, S2) => whileL t b n ρ S2
      | some (.ct ρ, S2) => whileL t b n ρ S2
      | some (.bk ρ, S2) => some (.nx ρ, S2)
      | q => q) else gNx
theorem whileL_more {t : Sl → MM Bool} {b : SM} : ∀ (n : Nat) {ss : Sl} {S : Store} {r : So × Store}, whileL t b n ss S = some r → whileL t b (n + 1) ss S = some r
  | 0, _, _, _, h => by cases h
  | n + 1, ss, S, r, h => by
    have ih := @whileL_more t b n
    have h' : exS t (fun c => if c = true then fun ss S => (match b ss S with
      | some (.nx ρ, S2) => whileL t b n ρ S2
      | some (.ct ρ, S2) => whileL t b n ρ S2
      | some (.bk ρ, S2) => some (.nx ρ, S2)
      | q => q) else gNx) ss S = some r := h
    show exS t (fun c => if c = true then fun ss S => (match b ss S with
      | some (.nx ρ, S2) => whileL t b (n + 1) ρ S2
      | some (.ct ρ, S2) => whileL t b (n + 1) ρ S2
      | some (.bk ρ, S2) => some (.nx ρ, S2)
      | q => q) else gNx) ss S = some r
    unfold exS at h' ⊢
    cases ht : t ss S with
    | none => simp only [ht] at h'; cases h'
    | some q =>
      obtain ⟨o, S1⟩ := q
      cases o with
      | er x => simp only [ht] at h' ⊢; exact h'
      | ok c =>
        simp only [ht] at h' ⊢
        cases c with
        | false => exact h'
        | true =>
          simp only [if_true] at h' ⊢
          cases hb : b ss S1 with
          | none => simp only [hb] at h'; cases h'
          | some q =>
            obtain ⟨o, S2⟩ := q
            simp only [hb] at h' ⊢
            cases o with
            | nx ρ => exact ih h'
            | ct ρ => exact ih h'
            | bk ρ => exact h'
            | rt ρ => exact h'
            | er z ρ => exact h'
open Classical in
noncomputable def gWhile (t : Sl → MM Bool) (b : SM) : SM := fun ss S => if h : ∃ n, (whileL t b n ss S).isSome = true then whileL t b (Classical.choose h) ss S else none
theorem whileL_le {t : Sl → MM Bool} {b : SM} {n m : Nat} (h : n ≤ m) {ss : Sl} {S : Store} {r : So × Store} (e : whileL t b n ss S = some r) : whileL t b m ss S = some r := by
  induction h with
  | refl => exact e
  | step _ ih => exact whileL_more _ ih
theorem gWhile_eq {t : Sl → MM Bool} {b : SM} {n : Nat} {ss : Sl} {S : Store} {r : So × Store} (e : whileL t b n ss S = some r) : gWhile t b ss S = some r := by
  have h : ∃ n, (whileL t b n ss S).isSome = true := ⟨n, by rw [e]; rfl⟩
  unfold gWhile
  rw [dif_pos h]
  have hs := Classical.choose_spec h
  cases q : whileL t b (Classical.choose h) ss S with
  | none => rw [q] at hs; cases hs
  | some r' =>
    rcases Nat.le_total n (Classical.choose h) with l | l
    · rw [whileL_le l e] at q; exact q.symm
    · rw [whileL_le l q] at e; exact e
theorem gWhile_inv {t : Sl → MM Bool} {b : SM} {ss : Sl} {S : Store} {r : So × Store} (e : gWhile t b ss S = some r) : ∃ n, whileL t b n ss S = some r := by
  unfold gWhile at e
  split at e
  · exact ⟨_, e⟩
  · cases e
theorem fs_while {c : Expr} {body : List Stmt} {t : Sl → MM Bool} {b : SM} {pos : Pos} (hp : PassesOwn (model X.prog X.w) X.A X.env X.xe) (hc : FT X W c t) (hb : FSs X W body b) : FS X W (.While c body [] pos) (gWhile t b) := by
  obtain ⟨tc, pc, sc⟩ := hc.ex
  obtain ⟨tb, pb, sb⟩ := hb.ex
  refine ⟨_, ps_while hp pc pb, fun σ ss F as S H D o S' hr s h cn => ?_⟩
  obtain ⟨n, h⟩ := gWhile_inv h
  refine ⟨fun m σ H => ∃ ρ S2 F2 as2, Ext F as F2 as2 ∧ SRel X.kw F2 as2 S2 H ∧ SlRel X.kw F2 as2 σ ρ ∧ whileL t b m ρ S2 = some (o, S'), ⟨n, ss, S, F, as, Ext.refl _ _, s, hr, h⟩, ?_⟩
  rintro m σ2 H2 ⟨ρ, S2, F2, as2, e2, s2, r2, h2⟩
  cases m with
  | zero => cases h2
  | succ m =>
    have h2' : exS t (fun c => if c = true then fun ss S => (match b ss S with
      | some (.nx ρ, S2) => whileL t b m ρ S2
      | some (.ct ρ, S2) => whileL t b m ρ S2
      | some (.bk ρ, S2) => some (.nx ρ, S2)
      | q => q) else gNx) ρ S2 = some (o, S') := h2
    refine stepST (T := tc σ2 H2) (fun Q o S' h c => sc σ2 ρ F2 as2 S2 H2 Q o S' r2 s2 h c) r2 h2' (cn.step e2) ?_
    intro x S3 F3 as3 H3 h3 e3 s3 c3 r3
    cases x with
    | false =>
      cases h3
      exact c3 F3 as3 H3 (Ext.refl _ _) s3 σ2 r3
    | true =>
      refine ⟨fun σ H => ∃ ρ S2 F2 as2, Ext F as F2 as2 ∧ SRel X.kw F2 as2 S2 H ∧ SlRel X.kw F2 as2 σ ρ ∧ whileL t b m ρ S2 = some (o, S'), fun σ' H' w => ⟨m, Nat.lt_succ_self m, w⟩, ?_⟩
      simp only [if_true] at h3
      cases hb4 : b ρ S3 with
      | none => simp only [hb4] at h3; cases h3
      | some q4 =>
        obtain ⟨o4, S4⟩ := q4
        simp only [hb4] at h3
        refine sb σ2 ρ F3 as3 S3 H3 _ o4 S4 r3 s3 hb4 fun F5 as5 H5 e5 s5 => ?_
        have e05 := (e2.trans e3).trans e5
        cases o4 with
        | nx ρ5 => exact fun σ5 r5 => ⟨ρ5, S4, F5, as5, e05, s5, r5, h3⟩
        | ct ρ5 => exact fun σ5 r5 => ⟨ρ5, S4, F5, as5, e05, s5, r5, h3⟩
        | bk ρ5 => cases h3; exact fun σ5 r5 => cn F5 as5 H5 e05 s5 σ5 r5
        | rt z => cases h3; exact cn F5 as5 H5 e05 s5
        | er z ρ5 => cases h3; exact cn F5 as5 H5 e05 s5
end
end FW

set_option Elab.async false
set_option linter.all false
set_option maxRecDepth 100000
/-! FW, part D: comprehensions, defs and their calls. -/
namespace FW
open PySem PySem.Spec PyProof.Rows L2

/-! ### readings that hang on the function alone -/
def teOf (K : KW) (W : WX) (f : Sl → MM SV) : TE := fun σ H Q => ∃ ss F as S o S', SlRel K F as σ ss ∧ SRel K F as S H ∧ f ss S = some (o, S') ∧ Cont K (WE W σ) F as S' o (fun x F' as' H' => ∀ v, VRel K F' as' v x → Q v H')
def ttOf (K : KW) (W : WX) (f : Sl → MM Bool) : TT := fun σ H Q => ∃ ss F as S o S', SlRel K F as σ ss ∧ SRel K F as S H ∧ f ss S = some (o, S') ∧ Cont K (WE W σ) F as S' o (fun x _ _ H' => Q x H')
theorem FE.can {X : Cx} {W : WX} {e : Expr} {f : Sl → MM SV} (h : FE X W e f) : PE X e (teOf X.kw W f) := by
  obtain ⟨te, p, s⟩ := h.ex
  exact ⟨fun pins sh σ H Q I ⟨ss, F, as, S, o, S', a, b, c, d⟩ => p.run pins sh σ H Q I (s σ ss F as S H Q o S' a b c d)⟩
structure FTs (X : Cx) (W : WX) (ifs : List Expr) (f : Sl → MM Bool) : Prop where
  can : PTs X ifs (ttOf X.kw W f)
def tYs : Sl → MM Bool := fun _ S => some (.ok true, S)
theorem fts_nil {X : Cx} {W : WX} : FTs X W [] tYs := ⟨⟨fun pins sh σ H Q I ⟨ss, F, as, S, o, S', a, b, c, d⟩ => pts_nil.run pins sh σ H Q I (by cases c; exact d F as H (Ext.refl _ _) b)⟩⟩
theorem fts_one {X : Cx} {W : WX} {c : Expr} {f : Sl → MM Bool} (h : FT X W c f) : FTs X W [c] f := by
  obtain ⟨te, p, s⟩ := h.ex
  exact ⟨⟨fun pins sh σ H Q I ⟨ss, F, as, S, o, S', a, b, c, d⟩ => (pts_one p).run pins sh σ H Q I (s σ ss F as S H Q o S' a b c d)⟩⟩
/-- a target that stores into the slots ws alone -/
def gOf (K : KW) (ws : List Nat) (g : GM) : TG := fun v σ H Q => ∃ x ss F as S ρ S', VRel K F as v x ∧ SlRel K F as σ ss ∧ SRel K F as S H ∧ g x ss S = some (ρ, S') ∧
  ∀ F' as' H' σ', Ext F as F' as' → SRel K F' as' S' H' → SlRel K F' as' σ' ρ → (σ'.length = σ.length ∧ ∀ j : Nat, j ∉ ws → σ'[j]? = σ[j]?) → Q σ' H'
def gsOf (K : KW) (ws : List Nat) (g : List SV → Sl → Store → Option (Sl × Store)) : TGs := fun v σ H Q => ∃ x ss F as S ρ S', VsRel K F as v x ∧ SlRel K F as σ ss ∧ SRel K F as S H ∧ g x ss S = some (ρ, S') ∧
  ∀ F' as' H' σ', Ext F as F' as' → SRel K F' as' S' H' → SlRel K F' as' σ' ρ → (σ'.length = σ.length ∧ ∀ j : Nat, j ∉ ws → σ'[j]? = σ[j]?) → Q σ' H'
structure FGw (X : Cx) (ws : List Nat) (tg : Expr) (g : GM) : Prop where
  can : PG X tg (gOf X.kw ws g)
structure FGsw (X : Cx) (ws : List Nat) (tg : List Expr) (g : List SV → Sl → Store → Option (Sl × Store)) : Prop where
  can : PGs X tg (gsOf X.kw ws g)
section
variable {X : Cx} {W : WX} {ws : List Nat}
theorem fgw_name {i : Nat} {x : Str} {pos : Pos} (hN : X.N.Nodup) (hi : X.N[i]? = some x) (hx : Loc X.env.scope x) (hw : i ∈ ws := by decide) (hf : X.fn x = true ∨ X.env.scope.names.lookup x = some .local := by first | exact .inl rfl | exact .inr rfl | assumption) : FGw X ws (.Name x pos) (tgN i) := by
  refine ⟨⟨fun pins sh σ H v u Q I rv ⟨y, ss, F, as, S, ρ, S', a, b, c, d, k⟩ => (pg_name hN hi hx hf).run pins sh σ H v u Q I rv ?_⟩⟩
  cases d
  exact k F as H _ (Ext.refl F as) c (b.set i a) ⟨List.length_set .., fun j hj => List.getElem?_set_ne (fun e => hj (by rw [← e]; exact hw))⟩
theorem fgsw_nil : FGsw X ws [] tgNil := by
  refine ⟨⟨fun pins sh σ H v u Q I rv ⟨y, ss, F, as, S, ρ, S', a, b, c, d, k⟩ => pgs_nil.run pins sh σ H v u Q I rv ?_⟩⟩
  cases a with
  | nil => cases d; exact ⟨rfl, k F as H σ (Ext.refl F as) c b ⟨rfl, fun _ _ => rfl⟩⟩
  | cons _ _ => cases d
theorem fgsw_cons {e : Expr} {es : List Expr} {a : GM} {b : List SV → Sl → Store → Option (Sl × Store)} (h1 : FGw X ws e a) (h2 : FGsw X ws es b)
    (hs : (assignEach (e :: es) X.env).map (·.2) = assign e X.env :: (assignEach es X.env).map (·.2) := by rfl) : FGsw X ws (e :: es) (tgCons a b) := by
  refine ⟨⟨fun pins sh σ H v u Q I rv ⟨y, ss, F, as, S, ρ, S', ra, rs, s, h, k⟩ => (pgs_cons h1.can h2.can hs).run pins sh σ H v u Q I rv ?_⟩⟩
  cases ra with
  | nil => cases h
  | @cons v x vs xs rx rxs =>
    unfold tgCons at h
    simp only at h
    split at h
    · rename_i ρ1 S1 h3
      refine ⟨v, vs, rfl, x, ss, F, as, S, ρ1, S1, rx, rs, s, h3, fun F1 as1 H1 σ1 e1 s1 r1 w1 => ?_⟩
      exact ⟨xs, ρ1, F1, as1, S1, ρ, S', VsRel.mono e1 rxs, r1, s1, h, fun F2 as2 H2 σ2 e2 s2 r2 w2 => k F2 as2 H2 σ2 (e1.trans e2) s2 r2 ⟨w2.1.trans w1.1, fun j hj => (w2.2 j hj).trans (w1.2 j hj)⟩⟩
    · cases h
theorem fgw_tup {es : List Expr} {kk : Nat} {n : Nat} {b : List SV → Sl → Store → Option (Sl × Store)} {pos : Pos} (hc : X.calm = true) (h : FGsw X ws es b)
    (hn : (assignEach es X.env).length = n := by rfl) (hst : (assignEach es X.env).findIdx? (·.1) = none := by rfl) : FGw X ws (.Tuple es kk pos) (tgT n b) := by
  refine ⟨⟨fun pins sh σ H v u Q I rv ⟨y, ss, F, as, S, ρ, S', ra, rs, s, hh, k⟩ => (pg_tup hc h.can hn hst).run pins sh σ H v u Q I rv ?_⟩⟩
  unfold tgT at hh
  split at hh
  · rename_i ds
    split at hh
    · rename_i hl
      cases ra with
      | @tup a vs ds hq rr =>
        exact ⟨a, vs, rfl, SqT.of (s.ff _ _ hq), by rw [rr.length]; exact hl, _, ss, F, as, S, ρ, S', VsRel.sh rr, rs, s, hh, k⟩
    · cases hh
  · cases hh
/-! ### comprehensions -/
def wipeS (ss : Sl) : List Nat → Sl
  | [] => ss
  | v :: vs => (wipeS ss vs).set v none
theorem SlRel.wipe {K : KW} {F : Hp} {as : AS} {σ : L2.St} {ss : Sl} (r : SlRel K F as σ ss) : ∀ vs : List Nat, SlRel K F as (wipe σ vs) (wipeS ss vs)
  | [] => r
  | v :: vs => (SlRel.wipe r vs).unset v none
theorem wipe_at (σ : L2.St) (j : Nat) : ∀ vs : List Nat, (wipe σ vs)[j]? = if j ∈ vs ∧ j < σ.length then some none else σ[j]?
  | [] => by simp [L2.wipe]
  | v :: vs => by
    unfold L2.wipe
    by_cases h : j = v
    · subst h
      by_cases hl : j < σ.length
      · rw [List.getElem?_set_self (by rw [wipe_length]; exact hl), if_pos ⟨List.mem_cons_self, hl⟩]
      · rw [List.getElem?_eq_none (by rw [List.length_set, wipe_length]; omega), if_neg (fun q => hl q.2), List.getElem?_eq_none (by omega)]
    · rw [List.getElem?_set_ne (Ne.symm h), wipe_at σ j vs]
      by_cases q : j ∈ vs
      · by_cases hl : j < σ.length
        · rw [if_pos ⟨q, hl⟩, if_pos ⟨List.mem_cons_of_mem _ q, hl⟩]
        · rw [if_neg (fun q => hl q.2), if_neg (fun q => hl q.2)]
      · rw [if_neg (fun z => q z.1), if_neg (fun z => by rcases List.mem_cons.mp z.1 with e | e; exact h e; exact q e)]
theorem wipe_of {σ σ' : L2.St} {vs : List Nat} (hl : σ'.length = σ.length) (h : ∀ j : Nat, j ∉ vs → σ'[j]? = (wipe σ vs)[j]?) : wipe σ' vs = wipe σ vs := by
  apply List.ext_getElem?
  intro j
  rw [wipe_at σ' j vs]
  by_cases q : j ∈ vs
  · rw [wipe_at σ j vs]
    by_cases hl' : j < σ.length
    · rw [if_pos (⟨q, hl'⟩ : j ∈ vs ∧ j < σ.length), if_pos (⟨q, by rw [hl]; exact hl'⟩ : j ∈ vs ∧ j < σ'.length)]
    · rw [if_neg (fun z : j ∈ vs ∧ j < σ.length => hl' z.2), if_neg (fun z : j ∈ vs ∧ j < σ'.length => hl' (by rw [← hl]; exact z.2)), List.getElem?_eq_none (by omega), List.getElem?_eq_none (by omega)]
  · rw [if_neg (fun z => q z.1), h j q]
theorem VRel.hide {K : KW} {F : Hp} {as : AS} {p : Addr} {o : HO} {v : V} {x : SV} (r : VRel K F as v x) : VRel K F (as.hide p o) v x := by cases x <;> exact r
theorem VRel.unhide {K : KW} {F : Hp} {as : AS} {p : Addr} {o : HO} {v : V} {x : SV} (r : VRel K F (as.hide p o) v x) : VRel K F as v x := by cases x <;> exact r
theorem VsRel.hide {K : KW} {F : Hp} {as : AS} {p : Addr} {o : HO} {v : List V} {x : List SV} (r : VsRel K F as v x) : VsRel K F (as.hide p o) v x := Paired.mapP r fun _ _ q => VRel.hide q
theorem VsRel.unhide {K : KW} {F : Hp} {as : AS} {p : Addr} {o : HO} {v : List V} {x : List SV} (r : VsRel K F (as.hide p o) v x) : VsRel K F as v x := Paired.mapP r fun _ _ q => VRel.unhide q
theorem SlRel.hide {K : KW} {F : Hp} {as : AS} {p : Addr} {o : HO} {σ : L2.St} {ss : Sl} (r : SlRel K F as σ ss) : SlRel K F (as.hide p o) σ ss := ⟨fun i x h => let ⟨v, a, b⟩ := r.at_ i x h; ⟨v, a, b.hide⟩, r.len⟩
theorem hide_hide {as : AS} {p : Addr} {o u : HO} : (as.hide p o).hide p u = as.hide p u := by
  unfold AS.hide
  congr 1
  funext a
  by_cases h : a = p
  · simp [h]
  · simp [h]
theorem rehide_eq {K : KW} {F H : Hp} {as : AS} {S : Store} {p : Addr} {o u : HO} (s : SRel K F (as.hide p o) S H) : SRel K F (as.hide p u) S (upd H p u) := by
  exact s.rehide
/-- what was kept aside is a cell from now on -/
theorem SRel.unhideC {K : KW} {F H : Hp} {as : AS} {S : Store} {p : Addr} {vs : List V} {ds : List D} (s : SRel K F (as.hide p (.lst vs)) S H) (hn : as.g p = none) (r : RepL K F vs ds) : SRel K F (as.snoc p) (S ++ [.lst (ds.map SV.sh)]) H := by
  obtain ⟨g1, g2, g3⟩ := s.gh p _ hide_same
  have na : ∀ a ∈ as.l, a ≠ p := fun a ha z => g3 (by rw [← z]; exact ha)
  have hx : Ext F as F (as.snoc p) := ⟨Same.refl F, ⟨[p], rfl⟩, rfl⟩
  refine ⟨s.ff, ?_, ?_, fun a ha => ?_, fun k a m' h1 h2 => ?_, fun a u e => ?_⟩
  · show (as.l ++ [p]).Nodup
    rw [List.nodup_append]
    exact ⟨s.nd, by simp, fun a ha b hb => by simp at hb; subst hb; exact na a ha⟩
  · show (as.l ++ [p]).length = _
    have := s.len
    have : as.l.length = S.length := this
    simp [this]
  · rcases List.mem_append.mp ha with q | q
    · exact s.there a q
    · simp at q; subst q; exact ⟨_, g1⟩
  · have h1 : (as.l ++ [p])[k]? = some a := h1
    have hlen : as.l.length = S.length := s.len
    by_cases hk : k < as.l.length
    · rw [List.getElem?_append_left hk] at h1
      rw [List.getElem?_append_left (by rw [← hlen]; exact hk)] at h2
      have c := s.cell k a m' h1 h2
      cases m' with
      | lst xs => obtain ⟨f, vs, e, r⟩ := c; exact ⟨f, vs, e, VsRel.mono hx (VsRel.unhide r)⟩
      | ins C ns xs => obtain ⟨f, dx, vs, e, hl, r⟩ := c; exact ⟨f, dx, vs, e, hl, VsRel.mono hx (VsRel.unhide r)⟩
      | dct ks xs => obtain ⟨f, vs, e, hl, r⟩ := c; exact ⟨f, vs, e, hl, VsRel.mono hx (VsRel.unhide r)⟩
      | fro d => exact c
    · have hk' : as.l.length ≤ k := Nat.le_of_not_lt hk
      rw [List.getElem?_append_right hk'] at h1
      rw [List.getElem?_append_right (by rw [← hlen]; exact hk')] at h2
      rw [hlen] at h1
      cases e : k - S.length with
      | zero => rw [e] at h1 h2; simp at h1 h2; subst h1; subst h2; exact ⟨g2, vs, g1, VsRel.sh r⟩
      | succ n => rw [e] at h1; simp at h1
  · have h : a ≠ p := fun z => by rw [z] at e; have e' : as.g p = some u := e; rw [hn] at e'; cases e'
    obtain ⟨q1, q2, q3⟩ := s.gh a u (by rw [hide_ne h]; exact e)
    refine ⟨q1, q2, fun hm => ?_⟩
    rcases List.mem_append.mp hm with q | q
    · exact q3 q
    · exact h (by simpa using q)
noncomputable def lcL (vs : List Nat) (g : GM) (t : Sl → MM Bool) (f : Sl → MM SV) : List D → List D → Sl → Store → Option (List D × Store)
  | [] => fun acc _ S => some (acc, S)
  | d :: r => fun acc ss S => match g (.sh d) (wipeS ss vs) S with
    | none => none
    | some (ρ, S1) => match t ρ S1 with
      | some (.ok true, S2) => match f ρ S2 with
        | some (.ok (.sh y), S3) => if acc.length < sizeLine then (match cut S S3 with
          | some S4 => lcL vs g t f r (acc ++ [y]) ss S4
          | none => none) else none
        | _ => none
      | some (.ok false, S2) => match cut S S2 with
        | some S4 => lcL vs g t f r acc ss S4
        | none => none
      | _ => none
noncomputable def sComp (c : Bool) (vs : List Nat) (it : Sl → MM (List D)) (g : GM) (t : Sl → MM Bool) (f : Sl → MM SV) : Sl → MM SV := fun ss => MM.bind (it ss) fun ds S => match lcL vs g t f ds [] ss S with
  | some (zs, S1) => alloc c zs S1
  | none => none
abbrev W0 : WX := fun _ _ _ _ => False
theorem tLc_ok {K : KW} {c : Bool} {vs : List Nat} {it : Sl → MM (List D)} {g : GM} {t : Sl → MM Bool} {f : Sl → MM SV} {wi : TI}
    (si : ∀ (σ : L2.St) (ss : Sl) (F : Hp) (as : AS) (S : Store) (H : Hp) (R : It → Hp → Prop) (o : Ou (List D)) (S' : Store), SlRel K F as σ ss → SRel K F as S H → it ss S = some (o, S') → Cont K (WE W σ) F as S' o (fun ds F' as' H' => ∀ J, Yields K F' J ds → R J H') → wi σ H R)
    (σ : L2.St) (ss : Sl) (F : Hp) (as : AS) (S : Store) (H : Hp) (Q : VK) (o : Ou SV) (S' : Store) (hr : SlRel K F as σ ss) (s : SRel K F as S H) (h : sComp c vs it g t f ss S = some (o, S'))
    (cn : Cont K (WE W σ) F as S' o (fun x F' as' H' => ∀ v, VRel K F' as' v x → Q v H')) : tLc wi (gOf K vs g) (ttOf K W0 t) (teOf K W0 f) vs σ H Q := by
  refine step (R := fun J H1 => ∀ D, H1 D = none → ∃ W : Nat → Nat → Hp → Prop, (∃ m, W 0 m (upd H1 D (.lst []))) ∧ ∀ i m H, W i m H → _) (T := wi σ H) (Rl := fun F' as' J ds => Yields K F' J ds) (fun Q o S' h c => si σ ss F as S H Q o S' hr s h c) h cn ?_
  intro ds S1 F1 as1 H1 J h1 e1 s1 y c1 D hD
  cases hz : lcL vs g t f ds [] ss S1 with
  | none => rw [hz] at h1; cases h1
  | some q =>
    obtain ⟨zs, Sf⟩ := q
    rw [hz] at h1
    have gD := s1.gnone hD
    refine ⟨fun i m H => m = ds.length - i ∧ i ≤ ds.length ∧ ∃ av ad S2 F2, Same F1 F2 ∧ SRel K F2 (as1.hide D (.lst av)) S2 H ∧ RepL K F2 av ad ∧ lcL vs g t f (ds.drop i) ad ss S2 = some (zs, Sf), ⟨ds.length, by simp, Nat.zero_le _, [], [], S1, F1, Same.refl _, s1.hide hD, .nil, hz⟩, ?_⟩
    rintro i m H2 ⟨rfl, hi, av, ad, S2, F2, e2, s2, ra, h2⟩
    by_cases hlt : i < ds.length
    · have hd : ds.drop i = ds[i] :: ds.drop (i + 1) := List.drop_eq_getElem_cons hlt
      rw [hd] at h2
      unfold lcL at h2
      refine .inr ⟨y.go i H2 (e2.trans s2.ff) hlt, fun H => ds.length - (i + 1) = ds.length - (i + 1) ∧ i + 1 ≤ ds.length ∧ ∃ av ad S2 F2, Same F1 F2 ∧ SRel K F2 (as1.hide D (.lst av)) S2 H ∧ RepL K F2 av ad ∧ lcL vs g t f (ds.drop (i + 1)) ad ss S2 = some (zs, Sf), fun H' w => ⟨ds.length - (i + 1), by omega, w⟩, fun x H' hy => ?_⟩
      have go : ∀ (F3 : Hp), Ext F2 (as1.hide D (.lst av)) F3 (as1.hide D (.lst av)) → SRel K F3 (as1.hide D (.lst av)) S2 H' → VRel K F3 (as1.hide D (.lst av)) x (.sh ds[i]) → gOf K vs g x (wipe σ vs) H' fun σ2 H2 => wipe σ2 vs = wipe σ vs ∧ ttOf K W0 t σ2 H2 fun b H3 =>
          if b = true then teOf K W0 f σ2 H3 fun y H4 => ∃ acc, H4 D = some (.lst acc) ∧ acc.length < sizeLine ∧ (fun H => ds.length - (i + 1) = ds.length - (i + 1) ∧ i + 1 ≤ ds.length ∧ ∃ av ad S2 F2, Same F1 F2 ∧ SRel K F2 (as1.hide D (.lst av)) S2 H ∧ RepL K F2 av ad ∧ lcL vs g t f (ds.drop (i + 1)) ad ss S2 = some (zs, Sf)) (upd H4 D (.lst (acc ++ [y])))
          else (fun H => ds.length - (i + 1) = ds.length - (i + 1) ∧ i + 1 ≤ ds.length ∧ ∃ av ad S2 F2, Same F1 F2 ∧ SRel K F2 (as1.hide D (.lst av)) S2 H ∧ RepL K F2 av ad ∧ lcL vs g t f (ds.drop (i + 1)) ad ss S2 = some (zs, Sf)) H3 := by
        intro F3 e3 s3 rx
        split at h2
        · cases h2
        · rename_i ρ S3 h3
          have rs : SlRel K F3 (as1.hide D (.lst av)) (wipe σ vs) (wipeS ss vs) := ((((hr.mono e1).mono (⟨e2, ⟨[], (List.append_nil _).symm⟩, rfl⟩ : Ext F1 as1 F2 as1)).hide (p := D) (o := .lst av)).mono e3).wipe vs
          refine ⟨_, _, F3, _, S2, ρ, S3, rx, rs, s3, h3, fun F4 as4 H4 σ4 e4 s4 r4 w4 => ⟨wipe_of (w4.1.trans (wipe_length σ vs)) w4.2, ?_⟩⟩
          · cases ht : t ρ S3 with
            | none => simp only [ht] at h2; cases h2
            | some q =>
              obtain ⟨o4, S4⟩ := q
              simp only [ht] at h2
              refine ⟨ρ, F4, as4, S3, o4, S4, r4, s4, ht, ?_⟩
              intro F5 as5 H5 e5 s5
              cases o4 with
              | er z => cases h2
              | ok b =>
                cases b with
                | false =>
                  simp only at h2
                  show (if false = true then _ else _)
                  rw [if_neg Bool.false_ne_true]
                  cases hc : cut S2 S4 with
                  | none => rw [hc] at h2; cases h2
                  | some S6 =>
                    rw [hc] at h2
                    have e35 := (e4.trans e5)
                    have s6 := cut_rel s3 e35 s5 hc
                    exact ⟨rfl, hlt, av, ad, S6, F5, (e2.trans e3.same).trans e35.same, s6, ra.mono (e3.same.trans e35.same), h2⟩
                | true =>
                  simp only at h2
                  show (if true = true then _ else _)
                  rw [if_pos rfl]
                  cases hf : f ρ S4 with
                  | none => simp only [hf] at h2; cases h2
                  | some q =>
                    obtain ⟨o6, S6⟩ := q
                    refine ⟨ρ, F5, as5, S4, o6, S6, r4.mono e5, s5, hf, ?_⟩
                    simp only [hf] at h2
                    intro F7 as7 H7 e7 s7
                    cases o6 with
                    | er z => cases h2
                    | ok yv =>
                      cases yv with
                      | cl k => cases h2
                      | sh yd =>
                        simp only at h2
                        intro v rv
                        split at h2
                        · rename_i hlen
                          have e37 := (e4.trans e5).trans e7
                          cases hc : cut S2 S6 with
                          | none => rw [hc] at h2; cases h2
                          | some S8 =>
                            rw [hc] at h2
                            have s8 := cut_rel s3 e37 s7 hc
                            obtain ⟨g1, g2, g3⟩ := s8.gh D _ hide_same
                            refine ⟨av, g1, by rw [ra.length]; exact hlen, rfl, hlt, av ++ [v], ad ++ [yd], S8, F7, (e2.trans e3.same).trans e37.same, s8.rehide, (ra.mono (e3.same.trans e37.same)).append (.cons rv .nil), h2⟩
                        · cases h2
      rcases y.yld i H2 x H' ds[i] (e2.trans s2.ff) hy (List.getElem?_eq_getElem hlt) with ⟨rfl, rx⟩ | ⟨T, vs', es, rfl, hT, rfl, hes, rvs⟩
      · exact go F2 (Ext.refl _ _) s2 (rx.mono e2)
      · obtain ⟨s3, x3, v3⟩ := s2.laidT hT (rvs.mono e2)
        exact go _ x3 s3 (by rw [hes]; exact v3)
    · have e : i = ds.length := by omega
      subst e
      rw [List.drop_length] at h2
      cases h2
      refine .inl ⟨y.stop H2 (e2.trans s2.ff), ?_⟩
      have h1' : (if c = true then some (Ou.ok (SV.cl Sf.length), Sf ++ [.lst (zs.map SV.sh)]) else some (Ou.ok (SV.sh (.lst zs)), Sf)) = some (o, S') := h1
      by_cases hc : c = true
      · rw [if_pos hc] at h1'; cases h1'
        have s4 := s2.unhideC gD ra
        have ll : Sf.length = as1.l.length := s2.len.symm
        exact c1 F2 (as1.snoc D) H2 ⟨e2, ⟨[D], rfl⟩, rfl⟩ s4 (.ref D) ⟨D, by rw [ll]; exact get_snoc D, rfl⟩
      · rw [if_neg hc] at h1'; cases h1'
        obtain ⟨s4, x4⟩ := s2.unhide gD
        exact c1 _ as1 H2 ⟨e2.trans x4, ⟨[], (List.append_nil _).symm⟩, rfl⟩ s4 (.ref D) (.lst upd_same (ra.mono x4))
end
end FW

set_option Elab.async false
set_option linter.all false
set_option maxRecDepth 100000
/-! FW, part E: comprehensions as expressions, defs, calls, instances. -/
namespace FW
open PySem PySem.Spec PyProof.Rows L2
section
variable {X : Cx} {W : WX}
theorem fe_comp {elt tg iter : Expr} {ifs : List Expr} {scope : Scope} {own : List (Str × Nat)} {pos : Pos} {it : Sl → MM (List D)} {g : GM} {t : Sl → MM Bool} {f : Sl → MM SV} (c : Bool) (hc : X.calm = true) (hN : X.N.Nodup) (hi : FI X W tg iter it) (ok : BlkOk X.N X.env.scope scope own)
    (hg : ∀ (s : Shared) (H : Hp) (C : Addr) (cl : List (Str × Addr)) (fp : List Addr), FGw (X.blk s H scope (compEnvC scope cl C X.env) fp) (own.map (·.2)) tg g) (ht : ∀ (s : Shared) (H : Hp) (C : Addr) (cl : List (Str × Addr)) (fp : List Addr), FTs (X.blk s H scope (compEnvC scope cl C X.env) fp) W0 ifs t)
    (he : ∀ (s : Shared) (H : Hp) (C : Addr) (cl : List (Str × Addr)) (fp : List Addr), FE (X.blk s H scope (compEnvC scope cl C X.env) fp) W0 elt f) (hs : ∀ x, foldedSetIterable iter X.env x = pure x := by intro _; rfl) :
    FE X W (.ListComp elt [⟨tg, iter, ifs, 0⟩] scope pos) (sComp c (own.map (·.2)) it g t f) := by
  obtain ⟨wi, pi, si⟩ := hi.ex
  exact ⟨_, pe_lc hc hN pi ok (fun s H C cl fp => (hg s H C cl fp).can) (fun s H C cl fp => (ht s H C cl fp).can) (fun s H C cl fp => (he s H C cl fp).can) hs, tLc_ok si⟩
theorem fs_setLc {i : Nat} {y : Str} {py : Pos} {elt tg iter : Expr} {ifs : List Expr} {scope : Scope} {own : List (Str × Nat)} {pos spos : Pos} {it : Sl → MM (List D)} {g : GM} {t : Sl → MM Bool} {f : Sl → MM SV} (c : Bool) (hc : X.calm = true) (hN : X.N.Nodup) (hy : X.N[i]? = some y) (hyl : X.env.scope.names.lookup y = some .local)
    (hsw : swapsWith (.ListComp elt [⟨tg, iter, ifs, 0⟩] scope pos) (some (.Name y py)) spos.line X.env = pure true) (hi : FI X W tg iter it) (ok : BlkOk X.N X.env.scope scope own)
    (hg : ∀ (s : Shared) (H : Hp) (C : Addr) (cl : List (Str × Addr)) (fp : List Addr), FGw (X.blk s H scope (compEnvC scope cl C X.env) fp) (own.map (·.2)) tg g) (ht : ∀ (s : Shared) (H : Hp) (C : Addr) (cl : List (Str × Addr)) (fp : List Addr), FTs (X.blk s H scope (compEnvC scope cl C X.env) fp) W0 ifs t)
    (he : ∀ (s : Shared) (H : Hp) (C : Addr) (cl : List (Str × Addr)) (fp : List Addr), FE (X.blk s H scope (compEnvC scope cl C X.env) fp) W0 elt f) (hs : ∀ x, foldedSetIterable iter X.env x = pure x := by intro _; rfl) :
    FS X W (.Assign [.Name y py] (.ListComp elt [⟨tg, iter, ifs, 0⟩] scope pos) spos) (gAs (sComp c (own.map (·.2)) it g t f) (tgN i)) := by
  obtain ⟨wi, pi, si⟩ := hi.ex
  exact ⟨_, ps_setLc hc hN hy hyl hsw pi ok (fun s H C cl fp => (hg s H C cl fp).can) (fun s H C cl fp => (ht s H C cl fp).can) (fun s H C cl fp => (he s H C cl fp).can) hs,
    tAsg_ok (tLc_ok si) fun v x σ ss F as S H Q ρ S' rv r s h c => by cases h; exact c F as H _ (Ext.refl F as) s (r.set i rv)⟩
end

/-! ### what a def does -/
abbrev Fn := List SV → Store → Option (Ou SV × Store)
def spG (K : KW) (ar : Nat) (g : Fn) : Sp := fun vs H Q E => ∃ F as S xs o S', SRel K F as S H ∧ VsRel K F as vs xs ∧ xs.length = ar ∧ g xs S = some (o, S') ∧ Cont K E F as S' o (fun x F' as' H' => ∀ v, VRel K F' as' v x → Q v H')
theorem spG_len {K : KW} {ar : Nat} {g : Fn} : ∀ vs H Q E, spG K ar g vs H Q E → vs.length = ar := fun vs H Q E ⟨F, as, S, xs, o, S', s, r, hl, _⟩ => by rw [Paired.length r]; exact hl
/-- a def's answer: made data (md) or handed out as it is; its own cells are cut off -/
noncomputable def fin (md : Bool) (S : Store) (x : SV) (S1 : Store) : Option (Ou SV × Store) := if md = true then (match frz x S1 with
    | some (.ok d, S2) => (cut S S2).map fun S3 => (.ok (.sh d), S3)
    | _ => none)
  else match x with
    | .sh d => (cut S S1).map fun S3 => (.ok (.sh d), S3)
    | .cl k => if k < S.length then (cut S S1).map fun S3 => (.ok (.cl k), S3) else
      match S1[k]? with
      | some (.lst xs) => match allSh xs with
        | some ds => (cut S S1).map fun S3 => (.ok (.cl S.length), S3 ++ [.lst (ds.map SV.sh)])
        | none => none
      | _ => none
noncomputable def runD (md : Bool) (nl : Nat) (g : SM) : Fn := fun xs S => match g (xs.map some ++ List.replicate (nl - xs.length) none) S with
  | some (.rt x, S1) => fin md S x S1
  | some (.nx _, S1) => fin md S (.sh .non) S1
  | some (.er x _, S1) => (cut S S1).map fun S2 => (.er x, S2)
  | _ => none
section
variable {K : KW} {F F' H H' : Hp} {as as' : AS} {S S1 S' : Store} {o : Ou SV} {v : V} {x : SV}
theorem allSh_eq : ∀ {xs : List SV} {ds : List D}, allSh xs = some ds → xs = ds.map SV.sh
  | [], ds, h => by cases h; rfl
  | .sh d :: r, ds, h => by
    have h' : (allSh r).map (d :: ·) = some ds := h
    cases e : allSh r with
    | none => rw [e] at h'; cases h'
    | some es => rw [e] at h'; cases h'; rw [allSh_eq e]; rfl
  | .cl _ :: _, ds, h => by cases h
theorem fin_ok {md : Bool} (s : SRel K F as S H) (e : Ext F as F' as') (s' : SRel K F' as' S1 H') (r : VRel K F' as' v x) (h : fin md S x S1 = some (o, S')) :
    ∃ y F2 as2, o = .ok y ∧ Ext F as F2 as2 ∧ SRel K F2 as2 S' H' ∧ VRel K F2 as2 v y := by
  unfold fin at h
  by_cases hm : md = true
  · rw [if_pos hm] at h
    split at h
    · rename_i d S2 h2
      obtain ⟨d', F2, ed, x2, s2, rd⟩ := frz_ok s' r h2
      cases ed
      cases hc : cut S S2 with
      | none => rw [hc] at h; cases h
      | some S3 =>
        rw [hc] at h; cases h
        have e2 := e.trans x2
        exact ⟨_, F2, as, rfl, ⟨e2.same, ⟨[], (List.append_nil _).symm⟩, rfl⟩, cut_rel s e2 s2 hc, rd⟩
    · cases h
  · rw [if_neg hm] at h
    cases x with
    | sh d =>
      cases hc : cut S S1 with
      | none => simp only [hc] at h; cases h
      | some S3 =>
        simp only [hc] at h; cases h
        exact ⟨_, F', as, rfl, ⟨e.same, ⟨[], (List.append_nil _).symm⟩, rfl⟩, cut_rel s e s' hc, r⟩
    | cl k =>
      simp only at h
      split at h
      · rename_i hk
        cases hc : cut S S1 with
        | none => rw [hc] at h; cases h
        | some S3 =>
          rw [hc] at h; cases h
          refine ⟨_, F', as, rfl, ⟨e.same, ⟨[], (List.append_nil _).symm⟩, rfl⟩, cut_rel s e s' hc, ?_⟩
          obtain ⟨a, ha, hv⟩ := r
          obtain ⟨t, et⟩ := e.pre
          rw [et, List.getElem?_append_left (by rw [s.len]; exact hk)] at ha
          exact ⟨a, ha, hv⟩
      · rename_i hk
        split at h
        · rename_i xs hx
          split at h
          · rename_i ds hd
            cases hc : cut S S1 with
            | none => rw [hc] at h; cases h
            | some S3 =>
              rw [hc] at h; cases h
              have sc := cut_rel s e s' hc
              obtain ⟨a, ha, rfl⟩ := r
              obtain ⟨f, vs, hH, rv⟩ := s'.cell k a _ ha hx
              have ll : as.l.length = S3.length := sc.len
              have ls : S3.length = S.length := by rw [← ll, s.len]
              have na : a ∉ as.l := fun hm => by
                obtain ⟨t, et⟩ := e.pre
                obtain ⟨j, hj, ej⟩ := List.getElem_of_mem hm
                have hj' : as'.l[j]? = some a := by rw [et, List.getElem?_append_left hj, List.getElem?_eq_getElem hj, ej]
                have hkl : j < as'.l.length := by rw [et, List.length_append]; omega
                have := (List.getElem?_inj hkl s'.nd).mp (hj'.trans ha.symm)
                have := s.len
                omega
              have rr := allSh_rep rv hd
              have gn : as.g a = none := by
                cases q : as.g a with
                | none => rfl
                | some u =>
                  have := s'.gh a u (by rw [e.gs]; exact q)
                  exact absurd (List.mem_of_getElem? ha) this.2.2
              have hx1 : Ext F' as F' (as.snoc a) := ⟨Same.refl F', ⟨[a], rfl⟩, rfl⟩
              have hlen : as.l.length = S3.length := sc.len
              refine ⟨_, F', as.snoc a, rfl, ⟨e.same, ⟨[a], rfl⟩, rfl⟩, ⟨sc.ff, ?_, ?_, fun b hb => ?_, fun j b m' h1 h2 => ?_, fun b u q => ?_⟩, ⟨a, by rw [← s.len]; exact get_snoc a, rfl⟩⟩
              · show (as.l ++ [a]).Nodup
                rw [List.nodup_append]
                exact ⟨s.nd, by simp, fun b hb c hc => by simp at hc; subst hc; exact fun z => na (by rw [← z]; exact hb)⟩
              · show (as.l ++ [a]).length = _
                simp [hlen]
              · rcases List.mem_append.mp hb with q | q
                · exact sc.there b q
                · simp at q; subst q; exact ⟨_, hH⟩
              · have h1 : (as.l ++ [a])[j]? = some b := h1
                by_cases hj : j < as.l.length
                · rw [List.getElem?_append_left hj] at h1
                  rw [List.getElem?_append_left (by rw [← hlen]; exact hj)] at h2
                  have c := sc.cell j b m' h1 h2
                  cases m' with
                  | lst xs => obtain ⟨f, vs, e, r⟩ := c; exact ⟨f, vs, e, VsRel.mono hx1 r⟩
                  | ins C ns xs => obtain ⟨f, dx, vs, e, hl, r⟩ := c; exact ⟨f, dx, vs, e, hl, VsRel.mono hx1 r⟩
                  | dct ks xs => obtain ⟨f, vs, e, hl, r⟩ := c; exact ⟨f, vs, e, hl, VsRel.mono hx1 r⟩
                  | fro d => exact c
                · have hj' : as.l.length ≤ j := Nat.le_of_not_lt hj
                  rw [List.getElem?_append_right hj'] at h1
                  rw [List.getElem?_append_right (by rw [← hlen]; exact hj')] at h2
                  rw [hlen] at h1
                  cases q : j - S3.length with
                  | zero => rw [q] at h1 h2; simp at h1 h2; subst h1; subst h2; exact ⟨f, vs, hH, VsRel.sh rr⟩
                  | succ n => rw [q] at h1; simp at h1
              · obtain ⟨q1, q2, q3⟩ := sc.gh b u q
                refine ⟨q1, q2, fun hm => ?_⟩
                rcases List.mem_append.mp hm with z | z
                · exact q3 z
                · simp at z; subst z
                  have q' : as.g b = some u := q
                  rw [gn] at q'; cases q'
          · cases h
        · cases h
end
theorem start_rel {K : KW} {F : Hp} {as : AS} {vs : List V} {xs : List SV} (N : List Str) (r : VsRel K F as vs xs) : SlRel K F as (L2.start N vs) (xs.map some ++ List.replicate (N.length - xs.length) none) := by
  have hl := Paired.length r
  refine ⟨fun i x h => ?_, by unfold L2.start; simp [hl]⟩
  by_cases hi : i < xs.length
  · rw [List.getElem?_append_left (by simpa using hi), List.getElem?_map] at h
    have : ∃ v, vs[i]? = some v ∧ VRel K F as v x := by
      have hx : xs[i]? = some x := by
        cases e : xs[i]? with
        | none => rw [e] at h; cases h
        | some y => rw [e] at h; cases h; rfl
      clear h hl hi
      induction r generalizing i with
      | nil => simp at hx
      | @cons a b l1 l2 q t ih =>
        cases i with
        | zero => simp at hx; subst hx; exact ⟨a, rfl, q⟩
        | succ i => exact ih i (by simpa using hx)
    obtain ⟨v, hv, rv⟩ := this
    refine ⟨v, ?_, rv⟩
    unfold L2.start
    rw [List.getElem?_append_left (by rw [List.length_map, hl]; exact hi), List.getElem?_map, hv]; rfl
  · rw [List.getElem?_append_right (by simpa using hi)] at h
    rw [List.getElem?_replicate] at h
    split at h <;> cases h
/-- THE RULE for a def -/
theorem fn_ok {P : Program} {w : World} {K : PySem.W.Frag} {mg : Str → Option Value} {base : Heap} {x qual : Str} {st : Stmt} {f : Addr} {fd : FuncData} {N ps : List Str} {k : Nat} {g : SM} (md : Bool) (F : Fun K x qual st f fd) (Sc : FnScope N ps (defScope st))
    (h : ∀ (cdv : Value) (A : Around) (outer : List Env) (s : Shared) (H : Hp) (E : XK), Room k (A.deeper (envOfC qual (defScope st) s.heap.objs.size f cdv)) →
      FSs (cxOf (L2.CX P w) P w K mg base N qual (defScope st) f cdv A outer s H E) (fun cls d _ H => E cls d H) (defBody st) g) : FnOk P w K mg base (L2.CX P w) (k + 1) f fd ps (spG ⟨K, P, w⟩ ps.length (runD md N.length g)) := by
  refine F.okX Sc (fun vs H Q E => spG_len vs H Q E) fun cdv A outer s H vs Q E hr hsp => ?_
  obtain ⟨t, pt, snd⟩ := (h cdv A outer s H E hr).ex
  refine ⟨t, pt, ?_⟩
  obtain ⟨F0, as, S, xs, o, S', sr, rv, hl, hg, cn⟩ := hsp
  unfold runD at hg
  cases hq : g (xs.map some ++ List.replicate (N.length - xs.length) none) S with
  | none => rw [hq] at hg; cases hg
  | some q =>
    obtain ⟨o1, S1⟩ := q
    refine snd _ _ F0 as S H _ o1 S1 (start_rel N rv) sr hq fun F1 as1 H1 e1 s1 => ?_
    rw [hq] at hg
    cases o1 with
    | rt y =>
      intro v rv1
      obtain ⟨z, F2, as2, eo, e2, s2, rz⟩ := fin_ok sr e1 s1 rv1 hg
      subst eo
      exact cn F2 as2 H1 e2 s2 v rz
    | nx ρ =>
      intro σ1 r1
      obtain ⟨z, F2, as2, eo, e2, s2, rz⟩ := fin_ok (v := .non) sr e1 s1 (show VRel ⟨K, P, w⟩ F1 as1 .non (.sh .non) from .non) hg
      subst eo
      exact cn F2 as2 H1 e2 s2 .non rz
    | er y ρ =>
      intro σ1 c d r1 hx
      cases hc : cut S S1 with
      | none => simp only [hc] at hg; cases hg
      | some S2 =>
        simp only [hc] at hg; cases hg
        exact cn F1 as H1 ⟨e1.same, ⟨[], (List.append_nil _).symm⟩, rfl⟩ (cut_rel sr e1 s1 hc) c d hx
    | bk ρ => cases hg
    | ct ρ => cases hg
/-- a def that is not called deeper than so -/
theorem fn_none {P : Program} {w : World} {K : PySem.W.Frag} {mg : Str → Option Value} {base : Heap} {f : Addr} {fd : FuncData} {ps : List Str} (k : Nat) : FnOk P w K mg base (L2.CX P w) k f fd ps (spG ⟨K, P, w⟩ ps.length fun _ _ => none) :=
  ⟨fun vs H Q E => spG_len vs H Q E, fun A outer s H args us vs Q E hr e0 hb r ⟨F, as, S, xs, o, S', _, _, _, hg, _⟩ => by cases hg⟩
section
variable {X : Cx} {W : WX}
def sCall (ar : Nat) (g : Fn) (fa : Sl → MM (List SV)) : Sl → MM SV := fun ss => MM.bind (fa ss) fun xs S => if xs.length = ar then g xs S else none
theorem callG {ta : TA} {ar : Nat} {g : Fn} {fa : Sl → MM (List SV)}
    (sa : ∀ (σ : L2.St) (ss : Sl) (F : Hp) (as : AS) (S : Store) (H : Hp) (Q : List V → Hp → Prop) (o : Ou (List SV)) (S' : Store), SlRel X.kw F as σ ss → SRel X.kw F as S H → fa ss S = some (o, S') → Cont X.kw (WE W σ) F as S' o (fun x F' as' H' => ∀ v, VsRel X.kw F' as' v x → Q v H') → ta σ H Q)
    (σ : L2.St) (ss : Sl) (F : Hp) (as : AS) (S : Store) (H : Hp) (Q : VK) (o : Ou SV) (S' : Store) (hr : SlRel X.kw F as σ ss) (s : SRel X.kw F as S H) (h : sCall ar g fa ss S = some (o, S'))
    (cn : Cont X.kw (WE W σ) F as S' o (fun x F' as' H' => ∀ v, VRel X.kw F' as' v x → Q v H')) : ta σ H fun vs H1 => spG X.kw ar g vs H1 Q (WE W σ) := by
  refine step (T := ta σ H) (Rl := fun F' as' v x => VsRel X.kw F' as' v x) (fun Q o S' h c => sa σ ss F as S H Q o S' hr s h c) h cn ?_
  intro xs S1 F1 as1 H1 vs h1 e1 s1 rv c1
  split at h1
  · rename_i hl
    exact ⟨F1, as1, S1, xs, o, S', s1, rv, hl, h1, c1⟩
  · cases h1
theorem fe_call {f : Addr} {fd : FuncData} {ps : List Str} {k : Nat} {ar : Nat} {g : Fn} {x : Str} {p pos : Pos} {e : Expr} {es : List Expr} {fa : Sl → MM (List SV)} (hx : XOk X W) (G : FnOk X.prog X.w X.K X.mg X.base (L2.CX X.prog X.w) k f fd ps (spG X.kw ar g)) (hr : Room k X.A) (hg : Gl X x) (hm : X.mg x = some (.ref f)) (hk : PySem.W.keepIn X.K (.ref f) = true) (hb : Binds X.K fd ps [])
    (ha : FA X W (e :: es) fa) (hdb : (x == ("__debug__" : Str)) = false := by decide) (he : starEach (e :: es) X.env = (false, eval e X.env) :: starEach es X.env := by rfl) (hpl : (backTo pos (starEach es X.env)).any (·.1) = false := by rfl) : FE X W (.Call (.Name x p) (e :: es) [] pos) (sCall ar g fa) := by
  obtain ⟨ta, pa, sa⟩ := ha.ex
  exact ⟨_, pe_callS G hr hg hm hk hb hx pa hdb he hpl, callG sa⟩
theorem xok_of {W : WX} (tk : Takes X W) : XOk X W := fun σ => passAt tk σ
theorem xok_none : XOk X W0 := fun σ pins H s e s' I h => by
  obtain ⟨_, _, _, _, _, _, _, _, _, _, _, _, z⟩ := h
  exact z.elim

/-! ### an own class -/
/-- x.f, x an instance of C -/
def fldD (C : String) (f : Str) (x : SV) : MM SV := fun S => match x with
  | .sh (.ins C' ns ds) => if C' = C then ((ns.zip ds).lookup f).map fun d => (.ok (.sh d), S) else none
  | .cl k => match S[k]? with
    | some (.ins C' ns xs) => if C' = C then ((ns.zip xs).lookup f).map fun y => (.ok y, S) else none
    | some (.fro (.ins C' ns ds)) => if C' = C then ((ns.zip ds).lookup f).map fun d => (.ok (.sh d), S) else none
    | _ => none
  | _ => none
def sFld (C : String) (f : Str) (g : Sl → MM SV) : Sl → MM SV := fun ss => MM.bind (g ss) (fldD C f)
theorem zip_look {α β : Type} {R : α → β → Prop} {f : Str} : ∀ {ns : List Str} {vs : List α} {ds : List β} {d : β}, Paired R vs ds → (ns.zip ds).lookup f = some d → ∃ v, (ns.zip vs).lookup f = some v ∧ R v d
  | [], _, _, _, _, h => by simp at h
  | n :: ns, _, _, _, .nil, h => by simp at h
  | n :: ns, v :: vs, d :: ds, d', .cons a r, h => by
    simp only [List.zip_cons_cons, List.lookup_cons] at h ⊢
    by_cases hn : f == n
    · simp only [hn] at h ⊢
      cases h
      exact ⟨v, rfl, a⟩
    · simp only [hn] at h ⊢
      exact zip_look r h
theorem RepL.paired {K : KW} {F : Hp} : ∀ {vs : List V} {ds : List D}, RepL K F vs ds → Paired (Rep K F) vs ds
  | _, _, .nil => .nil
  | _, _, .cons a r => .cons a r.paired
theorem fe_fld {C : String} {f : Str} {e : Expr} {g : Sl → MM SV} {pos : Pos} (hC : Cls X.K (X.kw.cm C)) (hn : NoAttr X.K (X.kw.cm C) f) (he : FE X W e g) (hb : attributeBase e f X.env (eval e X.env) = eval e X.env := by rfl) : FE X W (.Attribute e f pos) (sFld C f g) := by
  obtain ⟨te, p, snd⟩ := he.ex
  refine ⟨_, pe_fld p hb, fun σ ss F as S H Q o S' hr s h c => ?_⟩
  refine step (T := te σ H) (Rl := VR X) (fun Q o S' h c => snd σ ss F as S H Q o S' hr s h c) h c ?_
  intro x S1 F1 as1 H1 v h1 e1 s1 rv c1
  have fz : ∀ {C' : String} {ns : List Str} {ds : List D} {d : D}, Rep X.kw F1 v (.ins C' ns ds) → C' = C → (ns.zip ds).lookup f = some d → o = .ok (.sh d) → S' = S1 → ∃ a C dx fs w, v = .ref a ∧ H1 a = some (.ins C dx fs) ∧ Cls X.K C ∧ NoAttr X.K C f ∧ fs.lookup f = some w ∧ Q w H1 := by
    intro C' ns ds d r e q eo es
    subst e eo es
    cases r with
    | @ins a dx C' ns vs ds hh hl rr =>
      obtain ⟨w, hw, rw'⟩ := zip_look rr.paired q
      exact ⟨a, X.kw.cm C', dx, _, w, rfl, s1.ff _ _ hh, hC, hn, hw, c1 F1 as1 H1 (Ext.refl _ _) s1 w rw'⟩
  unfold fldD at h1
  split at h1
  · rename_i C' ns ds
    split at h1
    · rename_i eC
      cases q : (ns.zip ds).lookup f with
      | none => rw [q] at h1; cases h1
      | some d => rw [q] at h1; cases h1; exact fz rv eC q rfl rfl
    · cases h1
  · rename_i k
    split at h1
    · rename_i C' ns xs hk
      split at h1
      · rename_i eC
        subst eC
        cases q : (ns.zip xs).lookup f with
        | none => rw [q] at h1; cases h1
        | some y =>
          rw [q] at h1; cases h1
          obtain ⟨a, ha, rfl⟩ := rv
          obtain ⟨_, dx, vs, hH, hl, rr⟩ := s1.cell k a _ ha hk
          obtain ⟨w, hw, rw'⟩ := zip_look rr q
          exact ⟨a, X.kw.cm C', dx, _, w, rfl, hH, hC, hn, hw, c1 F1 as1 H1 (Ext.refl _ _) s1 w rw'⟩
      · cases h1
    · rename_i C' ns ds hk
      split at h1
      · rename_i eC
        cases q : (ns.zip ds).lookup f with
        | none => rw [q] at h1; cases h1
        | some d =>
          rw [q] at h1; cases h1
          obtain ⟨a, ha, hv⟩ := rv
          exact fz (by rw [hv]; exact s1.cell k a _ ha hk) eC q rfl rfl
      · cases h1
    · cases h1
  · cases h1
/-- the fields behind a store -/
def putN {α : Type} (f : Str) (y : α) : List Str → List α → List Str × List α
  | n :: ns, x :: xs => if n = f then (n :: ns, y :: xs) else let r := putN f y ns xs; (n :: r.1, x :: r.2)
  | _, _ => ([f], [y])
theorem putN_zip {f : Str} {y : V} : ∀ {ns : List Str} {vs : List V}, ns.length = vs.length → putF f y (ns.zip vs) = (putN f y ns vs).1.zip (putN f y ns vs).2 ∧ (putN f y ns vs).1.length = (putN f y ns vs).2.length
  | [], [], _ => ⟨rfl, rfl⟩
  | [], _ :: _, h => by simp at h
  | _ :: _, [], h => by simp at h
  | n :: ns, v :: vs, h => by
    obtain ⟨i1, i2⟩ := putN_zip (f := f) (y := y) (ns := ns) (vs := vs) (by simpa using h)
    unfold putN
    simp only [List.zip_cons_cons]
    unfold putF
    by_cases hn : n = f
    · rw [if_pos hn, if_pos hn]
      refine ⟨rfl, ?_⟩
      simpa using h
    · rw [if_neg hn, if_neg hn]
      refine ⟨by rw [i1]; rfl, ?_⟩
      simp [i2]
theorem putN_ns {α β : Type} {f : Str} {y : α} {z : β} : ∀ {ns : List Str} {vs : List α} {xs : List β}, vs.length = xs.length → (putN f y ns vs).1 = (putN f z ns xs).1
  | [], _, _, _ => by unfold putN; rfl
  | n :: ns, [], [], _ => by unfold putN; rfl
  | n :: ns, [], _ :: _, h => by simp at h
  | n :: ns, _ :: _, [], h => by simp at h
  | n :: ns, v :: vs, x :: xs, h => by
    have ih := putN_ns (f := f) (y := y) (z := z) (ns := ns) (vs := vs) (xs := xs) (by simpa using h)
    unfold putN
    by_cases hn : n = f
    · rw [if_pos hn, if_pos hn]
    · rw [if_neg hn, if_neg hn]; simp only [ih]
theorem putN_rel {α β : Type} {R : α → β → Prop} {f : Str} {y : α} {z : β} (q : R y z) : ∀ {ns : List Str} {vs : List α} {xs : List β}, Paired R vs xs → Paired R (putN f y ns vs).2 (putN f z ns xs).2
  | [], _, _, _ => by unfold putN; exact .cons q .nil
  | n :: ns, _, _, .nil => by unfold putN; exact .cons q .nil
  | n :: ns, _ :: _, _ :: _, .cons a r => by
    have ih := putN_rel (f := f) q (ns := ns) r
    unfold putN
    by_cases hn : n = f
    · rw [if_pos hn, if_pos hn]; exact .cons q r
    · rw [if_neg hn, if_neg hn]; exact .cons a ih
def putC (C : String) (f : Str) (y x : SV) (S : Store) : Option Store := match x with
  | .cl k => match S[k]? with
    | some (.ins C' ns xs) => if C' = C ∧ ns.length < 1000 then let r := putN f y ns xs; some (S.set k (.ins C r.1 r.2)) else none
    | _ => none
  | _ => none
def gFld (C : String) (f : Str) (gv go : Sl → MM SV) : SM := exS gv fun y => exS go fun x ss S => match putC C f y x S with
  | some S1 => some (.nx ss, S1)
  | none => none
theorem fs_fld {C : String} {f : Str} {o value : Expr} {gv go : Sl → MM SV} {pos pos' : Pos} (hC : Cls X.K (X.kw.cm C)) (hn : NoAttr X.K (X.kw.cm C) f) (ho : FE X W o go) (hv : FE X W value gv) (hs : swapsWith value (some (.Attribute o f pos')) pos.line X.env = pure false := by rfl) : FS X W (.Assign [.Attribute o f pos'] value pos) (gFld C f gv go) := by
  obtain ⟨to, po, so⟩ := ho.ex
  obtain ⟨tv, pv, sv⟩ := hv.ex
  refine ⟨_, ps_fld po pv hs, fun σ ss F as S H Dd ou S' hr s h c => ?_⟩
  refine stepS (T := tv σ H) (Rl := VR X) (fun Q o S' h c => sv σ ss F as S H Q o S' hr s h c) hr h c ?_
  intro y S1 F1 as1 H1 v h1 e1 s1 rv c1 r1
  refine stepS (T := to σ H1) (Rl := VR X) (fun Q o S' h c => so σ ss F1 as1 S1 H1 Q o S' r1 s1 h c) r1 h1 c1 ?_
  intro x S2 F2 as2 H2 w h2 e2 s2 rw' c2 r2
  split at h2
  · rename_i S3 h3
    cases h2
    unfold putC at h3
    split at h3
    · rename_i k
      split at h3
      · rename_i C' ns xs hk
        split at h3
        · rename_i hc
          obtain ⟨eC, hl⟩ := hc
          subst eC
          cases h3
          obtain ⟨a, ha, rfl⟩ := rw'
          obtain ⟨fa, dx, vs, hH, hlen, rr⟩ := s2.cell k a _ ha hk
          have rv2 := VRel.mono e2 rv
          obtain ⟨z1, z2⟩ := putN_zip (f := f) (y := v) hlen
          refine ⟨a, X.kw.cm C', dx, _, rfl, hH, hC, hn, by rw [List.length_zip]; omega, ?_⟩
          have s3 : SRel X.kw F2 as2 (S2.set k (.ins C' (putN f y ns xs).1 (putN f y ns xs).2)) (upd H2 a (.ins (X.kw.cm C') dx (putF f v (ns.zip vs)))) := by
            refine s2.write ha fa ⟨fa, dx, (putN f v ns vs).2, ?_, ?_, putN_rel rv2 rr⟩
            · rw [upd_same, z1, putN_ns (z := y) (xs := xs) (Paired.length rr)]
            · rw [← putN_ns (y := v) (vs := vs) (Paired.length rr)]; exact z2
          exact c2 F2 as2 _ (Ext.refl _ _) s3 σ r2
        · cases h3
      · cases h3
    · cases h3
  · cases h2
/-- C(e, ..): the fresh instance is made by __init__, then stands still (kp = false) or stays a cell -/
noncomputable def sMake (kp : Bool) (C : String) (ar : Nat) (g : Fn) (fa : Sl → MM (List SV)) : Sl → MM SV := fun ss => MM.bind (fa ss) fun xs S => if xs.length + 1 = ar then (match g (.cl S.length :: xs) (S ++ [.ins C [] []]) with
    | some (.ok (.sh .non), S1) => if kp = true then some (.ok (.cl S.length), S1) else (match frz (.cl S.length) S1 with
      | some (.ok d, S2) => (cut S S2).map fun S3 => (.ok (.sh d), S3)
      | _ => none)
    | _ => none) else none
theorem fe_make {kp : Bool} {C : String} {f : Addr} {fd : FuncData} {ps : List Str} {k : Nat} {ar : Nat} {g : Fn} {x : Str} {p pos : Pos} {e : Expr} {es : List Expr} {fa : Sl → MM (List SV)} (M : Mk X.K (X.kw.cm C) f) (G : FnOk X.prog X.w X.K X.mg X.base (L2.CX X.prog X.w) k f fd ps (spG X.kw ar g)) (hr : Room (k + 1) X.A) (hg : Gl X x) (hm : X.mg x = some (.ref (X.kw.cm C))) (hb : Binds X.K fd ps [])
    (ha : FA X W (e :: es) fa) (hdb : (x == ("__debug__" : Str)) = false := by decide) (he : starEach (e :: es) X.env = (false, eval e X.env) :: starEach es X.env := by rfl) (hpl : (backTo pos (starEach es X.env)).any (·.1) = false := by rfl) : FE X W (.Call (.Name x p) (e :: es) [] pos) (sMake kp C ar g fa) := by
  obtain ⟨ta, pa, sa⟩ := ha.ex
  refine ⟨_, pe_make (E := E0) M G hr hg hm hb .nil passL pa hdb he hpl, fun σ ss F as S H Q o S' hr s h c => ?_⟩
  refine step (T := ta σ H) (Rl := fun F' as' v x => VsRel X.kw F' as' v x) (fun Q o S' h c => sa σ ss F as S H Q o S' hr s h c) h c ?_
  intro xs S1 F1 as1 H1 vs h1 e1 s1 rv c1 a dx ha0 hd0 hne
  split at h1
  · rename_i hl
    have sd := s1.more (p := dx) (o := .own a) hd0
    have ha1 : upd H1 dx (.own a) a = none := by rw [upd_ne (Ne.symm hne)]; exact ha0
    have sc := sd.newC (p := a) (o := .ins (X.kw.cm C) dx []) (m := .ins C [] []) ha1 ⟨sd.fnone ha1, dx, [], by rw [upd_same]; rfl, rfl, .nil⟩
    have xc : Ext F1 as1 F1 (as1.snoc a) := Ext.newC a
    have va : VRel X.kw F1 (as1.snoc a) (.ref a) (.cl S1.length) := ⟨a, s1.get_new a, rfl⟩
    split at h1
    · rename_i S2 h2
      refine ⟨F1, as1.snoc a, S1 ++ [.ins C [] []], .cl S1.length :: xs, .ok (.sh .non), S2, sc, ?_, by simpa using hl, h2, fun F3 as3 H3 e3 s3 v rv3 => ?_⟩
      · rw [List.append_nil]
        exact .cons va (VsRel.mono xc rv)
      · refine ⟨Rep.non_of rv3, ?_⟩
        split at h1
        · cases h1
          exact c1 F3 as3 H3 (xc.trans e3) s3 (.ref a) (VRel.mono e3 va)
        · split at h1
          · rename_i d S4 h4
            obtain ⟨d', F4, ed, x4, s4, rd⟩ := frz_ok s3 (VRel.mono e3 va) h4
            cases ed
            cases hc : cut S1 S4 with
            | none => rw [hc] at h1; cases h1
            | some S5 =>
              rw [hc] at h1; cases h1
              have e5 := (xc.trans e3).trans x4
              exact c1 F4 as1 H3 ⟨e5.same, ⟨[], (List.append_nil _).symm⟩, rfl⟩ (cut_rel (H := H1) s1 e5 s4 hc) (.ref a) rd
          · cases h1
    · cases h1
  · cases h1
end
end FW

set_option Elab.async false
set_option linter.all false
set_option maxRecDepth 100000
/-! FW, part F: the operators and built-ins, as functions of data. -/
namespace FW
open PySem PySem.Spec PyProof.Rows L2

/-! ### arithmetic -/
theorem Snd2.or {K : KW} {r r' : R2} {g g' : D → D → Option An} (h : Snd2 K r g) (h' : Snd2 K r' g') : Snd2 K (fun x y H Q => r x y H Q ∨ r' x y H Q) (fun d e => match g d e with
    | some a => some a
    | none => g' d e) := fun F H x y d e an Q s rx ry hg q => by
  cases e1 : g d e with
  | some a => simp only [e1] at hg; cases hg; exact .inl (h F H x y d e an Q s rx ry e1 q)
  | none => simp only [e1] at hg; exact .inr (h' F H x y d e an Q s rx ry hg q)
def dI (C : Int → Int → Bool) (f : Int → Int → Int) : D → D → Option An
  | .int i, .int j => if C i j = true then some (.val (.int (f i j))) else none
  | _, _ => none
def dB (f : Int → Int → Bool) : D → D → Option An
  | .int i, .int j => some (.val (.bl (f i j)))
  | _, _ => none
theorem snd_I0 {K : KW} {f : Int → Int → Int} : Snd2 K (rI0 fun i j => .int (f i j)) (dI (fun _ _ => true) f) := fun F H x y d e an Q s rx ry hg q => by
  unfold dI at hg
  split at hg
  · rw [if_pos rfl] at hg; cases hg
    exact ⟨_, _, rx.int, ry.int, q _ (.int _)⟩
  · cases hg
theorem snd_I {K : KW} {C : Int → Int → Prop} {c : Int → Int → Bool} {f : Int → Int → Int} (hc : ∀ i j, c i j = true → C i j) : Snd2 K (rI C fun i j => .int (f i j)) (dI c f) := fun F H x y d e an Q s rx ry hg q => by
  unfold dI at hg
  split at hg
  · split at hg
    · rename_i h
      cases hg
      exact ⟨_, _, rx.int, ry.int, hc _ _ h, q _ (.int _)⟩
    · cases hg
  · cases hg
theorem snd_B {K : KW} {f : Int → Int → Bool} : Snd2 K (rI0 fun i j => .bl (f i j)) (dB f) := fun F H x y d e an Q s rx ry hg q => by
  unfold dB at hg
  split at hg
  · cases hg
    exact ⟨_, _, rx.int, ry.int, q _ (.bl _)⟩
  · cases hg
/-! texts, lists, tuples together -/
def dAddS : D → D → Option An
  | .str i, .str j => if i.length + j.length ≤ sizeLine then some (.val (.str (i ++ j))) else none
  | _, _ => none
def dAddL : D → D → Option An
  | .lst i, .lst j => if i.length + j.length ≤ sizeLine then some (.lst (i ++ j)) else none
  | _, _ => none
theorem snd_addS {K : KW} : Snd2 K (fun x y H Q => ∃ i j, x = .str i ∧ y = .str j ∧ i.length + j.length ≤ sizeLine ∧ Q (.str (i ++ j)) H) dAddS := fun F H x y d e an Q s rx ry hg q => by
  unfold dAddS at hg
  split at hg
  · split at hg
    · rename_i h
      cases hg
      exact ⟨_, _, rx.str, ry.str, h, q _ (.str _)⟩
    · cases hg
  · cases hg
theorem snd_addL {K : KW} : Snd2 K rCat dAddL := fun F H x y d e an Q s rx ry hg q => by
  unfold dAddL at hg
  split at hg
  · split at hg
    · rename_i h
      cases hg
      obtain ⟨a, vs, rfl, ha, ra⟩ := rx.isLst s
      obtain ⟨b, ws, rfl, hb, rb⟩ := ry.isLst s
      exact ⟨a, b, vs, ws, rfl, rfl, ha, hb, by rw [ra.length, rb.length]; exact h, fun p hp => q p _ hp (ra.append rb)⟩
    · cases hg
  · cases hg
def dAdd : D → D → Option An := fun d e => match dI (fun _ _ => true) (fun i j => i + j) d e with
  | some a => some a
  | none => (fun d e => match dAddS d e with
    | some a => some a
    | none => dAddL d e) d e
section
variable {X : Cx} {W : WX}
theorem fe_add {a b : Expr} {fa fb : Sl → MM SV} {pos : Pos} (c : Bool) (ha : FE X W a fa) (hb : FE X W b fb) : FE X W (.BinOp a .Add b pos) (b2 c dAdd fa fb) :=
  fe_op c (op_add.or (op_add_str.or op_cat)) (Snd2.or snd_I0 (Snd2.or snd_addS snd_addL)) ha hb
theorem fe_sub {a b : Expr} {fa fb : Sl → MM SV} {pos : Pos} (ha : FE X W a fa) (hb : FE X W b fb) : FE X W (.BinOp a .Sub b pos) (b2 false (dI (fun _ _ => true) fun i j => i - j) fa fb) :=
  fe_op false op_sub snd_I0 ha hb
def cMul (i j : Int) : Bool := decide (i.natAbs.log2 + j.natAbs.log2 < 1000000)
theorem fe_mul {a b : Expr} {fa fb : Sl → MM SV} {pos : Pos} (ha : FE X W a fa) (hb : FE X W b fb) : FE X W (.BinOp a .Mult b pos) (b2 false (dI cMul fun i j => i * j) fa fb) :=
  fe_op false op_mulW (snd_I fun i j h => (of_decide_eq_true h : i.natAbs.log2 + j.natAbs.log2 < 1000000)) ha hb
def cDiv (_ j : Int) : Bool := decide (0 < j ∧ j.natAbs.log2 < 9000)
theorem fe_fdiv {a b : Expr} {fa fb : Sl → MM SV} {pos : Pos} (ha : FE X W a fa) (hb : FE X W b fb) : FE X W (.BinOp a .FloorDiv b pos) (b2 false (dI cDiv fun i j => i / j) fa fb) :=
  fe_op false op_fdivW (snd_I fun i j h => (of_decide_eq_true h : 0 < j ∧ j.natAbs.log2 < 9000)) ha hb
def cMod (_ j : Int) : Bool := decide (0 < j)
theorem fe_mod {a b : Expr} {fa fb : Sl → MM SV} {pos : Pos} (ha : FE X W a fa) (hb : FE X W b fb) : FE X W (.BinOp a .Mod b pos) (b2 false (dI cMod fun i j => i % j) fa fb) :=
  fe_op false op_mod (snd_I fun i j h => of_decide_eq_true h) ha hb
def CPowW (i j : Int) : Prop := 0 ≤ j ∧ (Builtin.Int.intBits i : Int) * j ≤ 2 ^ 27
theorem op_powW : OpR X (binaryOp .Pow) (rI CPowW fun i j => .int (i ^ j.toNat)) := opI fun _ _ _ _ _ _ _ hc q => pow_int hc.1 hc.2 q
def cPow (i j : Int) : Bool := decide (0 ≤ j ∧ (Builtin.Int.intBits i : Int) * j ≤ 2 ^ 27)
theorem fe_pow {a b : Expr} {fa fb : Sl → MM SV} {pos : Pos} (ha : FE X W a fa) (hb : FE X W b fb) : FE X W (.BinOp a .Pow b pos) (b2 false (dI cPow fun i j => i ^ j.toNat) fa fb) :=
  fe_op false op_powW (snd_I fun i j h => (of_decide_eq_true h : 0 ≤ j ∧ (Builtin.Int.intBits i : Int) * j ≤ 2 ^ 27)) ha hb
/-- x += e -/
theorem fs_augI {i : Nat} {x : Str} {e : Expr} {f : Sl → MM SV} {pos pos' : Pos} (hN : X.N.Nodup) (hi : X.N[i]? = some x) (hx : Loc X.env.scope x) (he : FE X W e f) (hf : X.fn x = true ∨ X.env.scope.names.lookup x = some .local := by first | exact .inl rfl | exact .inr rfl | assumption) : FS X W (.AugAssign (.Name x pos') .Add e pos) (gAug i false (dI (fun _ _ => true) fun i j => i + j) f) :=
  fs_aug false hN hi hx he iop_add snd_I0 hf
theorem fs_augS {i : Nat} {x : Str} {e : Expr} {f : Sl → MM SV} {pos pos' : Pos} (hN : X.N.Nodup) (hi : X.N[i]? = some x) (hx : Loc X.env.scope x) (he : FE X W e f) (hf : X.fn x = true ∨ X.env.scope.names.lookup x = some .local := by first | exact .inl rfl | exact .inr rfl | assumption) : FS X W (.AugAssign (.Name x pos') .Sub e pos) (gAug i false (dI (fun _ _ => true) fun i j => i - j) f) :=
  fs_aug false hN hi hx he iop_sub snd_I0 hf

/-! ### comparisons -/
def dS (f : List Nat → List Nat → Bool) : D → D → Option An
  | .str i, .str j => some (.val (.bl (f i.cps.toList j.cps.toList)))
  | _, _ => none
def d2 (f : D → D → Option An) (g : D → D → Option An) : D → D → Option An := fun d e => match f d e with
  | some a => some a
  | none => g d e
def dLt : D → D → Option An := d2 (dB fun i j => decide (i < j)) (dS fun i j => decide (i < j))
def dLe : D → D → Option An := d2 (dB fun i j => decide (i ≤ j)) (dS fun i j => !decide (j < i))
def dGt : D → D → Option An := d2 (dB fun i j => decide (j < i)) (dS fun i j => decide (j < i))
def dGe : D → D → Option An := d2 (dB fun i j => decide (j ≤ i)) (dS fun i j => !decide (i < j))
end
/-! data as the library's plain data -/
mutual
def toPy : D → Option PyData
  | .non => some .none
  | .bl b => some (.bool b)
  | .int i => some (.int i)
  | .str x => some (.str x)
  | .lst ds => (toPyL ds).map .list
  | .scr ds => (toPyL ds).map .list
  | .tup ds => (toPyL ds).map .tuple
  | _ => none
def toPyL : List D → Option (List PyData)
  | [] => some []
  | d :: r => match toPy d, toPyL r with
    | some p, some ps => some (p :: ps)
    | _, _ => none
end
section
variable {K : KW} {F H : Hp}
mutual
theorem rep_dp (s : Same F H) : ∀ {v : V} {d : D} {p : PyData}, Rep K F v d → toPy d = some p → Dp K.K H v p
  | _, _, _, .non, e => by cases e; exact .non
  | _, _, _, .bl b, e => by cases e; exact .bl b
  | _, _, _, .int b, e => by cases e; exact .int b
  | _, _, _, .str b, e => by cases e; exact .str b
  | _, _, _, .ty b, e => by cases e
  | _, _, _, .ref b, e => by cases e
  | _, .lst ds, _, .lst h r, e => by
    have e' : (toPyL ds).map PyData.list = some _ := e
    cases q : toPyL ds with
    | none => rw [q] at e'; cases e'
    | some ps => rw [q] at e'; cases e'; exact .lst (SqL.of (s _ _ h)) (rep_dpL s r q)
  | _, .scr ds, _, .scr h r, e => by
    have e' : (toPyL ds).map PyData.list = some _ := e
    cases q : toPyL ds with
    | none => rw [q] at e'; cases e'
    | some ps => rw [q] at e'; cases e'; exact .lst (s.seq h) (rep_dpL s r q)
  | _, .tup ds, _, .tup h r, e => by
    have e' : (toPyL ds).map PyData.tuple = some _ := e
    cases q : toPyL ds with
    | none => rw [q] at e'; cases e'
    | some ps => rw [q] at e'; cases e'; exact .tup (SqT.of (s _ _ h)) (rep_dpL s r q)
  | _, _, _, .ins _ _ _, e => by cases e
  | _, _, _, .set _, e => by cases e
  | _, _, _, .cls _, e => by cases e
  | _, _, _, .exc0 _, e => by cases e
  | _, _, _, .exc1 _ _ _ _, e => by cases e
theorem rep_dpL (s : Same F H) : ∀ {vs : List V} {ds : List D} {ps : List PyData}, RepL K F vs ds → toPyL ds = some ps → DpAll K.K H vs ps
  | _, _, _, .nil, e => by cases e; exact .nil
  | _, d :: r, ps, .cons a q, e => by
    have e' : (match toPy d, toPyL r with
      | some p, some ps => some (p :: ps)
      | _, _ => none) = some ps := e
    cases h1 : toPy d with
    | none => simp only [h1] at e'; cases e'
    | some p =>
      cases h2 : toPyL r with
      | none => simp only [h1, h2] at e'; cases e'
      | some ps' => simp only [h1, h2] at e'; cases e'; exact .cons (rep_dp s a h1) (rep_dpL s q h2)
end
theorem rd_dp (s : Same F H) {v : V} {d : D} {p : PyData} (r : RdRel K F H v d) (e : toPy d = some p)   : Dp K.K H v p := by
  cases r with
  | fz r => exact rep_dp s r e
  | @lst a vs ds hv hd h r =>
    subst hv hd
    have e' : (toPyL ds).map PyData.list = some p := e
    cases q : toPyL ds with
    | none => rw [q] at e'; cases e'
    | some ps => rw [q] at e'; cases e'; exact .lst (SqL.of h) (rep_dpL s r q)
  | ins hv hd h hl r => subst hv hd; cases e
end
def dEq (n : Bool) : D → D → Option An := fun d e => match toPy d, toPy e with
  | some p, some q => if (SeqAt.shaped p && SeqAt.shaped q) = true then some (.val (.bl (n != PyData.eqv p q))) else none
  | _, _ => none
theorem snd_eq {K : KW} : Snd2 K (rEqD K.K) (dEq false) := fun F H x y d e an Q s rx ry hg q => by
  unfold dEq at hg
  split at hg
  · rename_i p q' h1 h2
    split at hg
    · rename_i h
      cases hg
      obtain ⟨z1, z2⟩ := Bool.and_eq_true_iff.mp h
      exact ⟨p, q', rd_dp s rx h1, rd_dp s ry h2, z1, z2, by have := q _ (.bl _); simpa using this⟩
    · cases hg
  · cases hg
theorem snd_ne {K : KW} : Snd2 K (rNeD K.K) (dEq true) := fun F H x y d e an Q s rx ry hg q => by
  unfold dEq at hg
  split at hg
  · rename_i p q' h1 h2
    split at hg
    · rename_i h
      cases hg
      obtain ⟨z1, z2⟩ := Bool.and_eq_true_iff.mp h
      exact ⟨p, q', rd_dp s rx h1, rd_dp s ry h2, z1, z2, by have := q _ (.bl _); simpa using this⟩
    · cases hg
  · cases hg
def isN : D → Bool
  | .non => true
  | _ => false
def dIsN (n : Bool) : D → D → Option An
  | d, .non => some (.val (.bl (n != isN d)))
  | _, _ => none
theorem rd_non {K : KW} {F H : Hp} {v : V} {d : D} (r : RdRel K F H v d) : decide (v = .non) = isN d := by
  cases r with
  | fz r => cases r <;> rfl
  | lst hv hd h r => rw [hv, hd]; rfl
  | ins hv hd h hl r => rw [hv, hd]; rfl
theorem snd_isN {K : KW} : Snd2 K (fun x y H Q => y = .non ∧ Q (.bl (decide (x = .non))) H) (dIsN false) := fun F H x y d e an Q s rx ry hg q => by
  unfold dIsN at hg
  split at hg
  · cases hg
    refine ⟨ry.non, ?_⟩
    have := q _ (.bl _)
    rw [rd_non rx]
    simpa using this
  · cases hg
theorem snd_notN {K : KW} : Snd2 K (fun x y H Q => y = .non ∧ Q (.bl (!decide (x = .non))) H) (dIsN true) := fun F H x y d e an Q s rx ry hg q => by
  unfold dIsN at hg
  split at hg
  · cases hg
    refine ⟨ry.non, ?_⟩
    have := q _ (.bl _)
    rw [rd_non rx]
    simpa using this
  · cases hg
theorem snd_dS {K : KW} {f : List Nat → List Nat → Bool} : Snd2 K (fun x y H Q => ∃ i j, x = .str i ∧ y = .str j ∧ Q (.bl (f i.cps.toList j.cps.toList)) H) (dS f) := fun F H x y d e an Q s rx ry hg q => by
  unfold dS at hg
  split at hg
  · cases hg
    exact ⟨_, _, rx.str, ry.str, q _ (.bl _)⟩
  · cases hg
/-! in -/
def flatD : D → Bool
  | .non => true
  | .bl _ => true
  | .int _ => true
  | .str _ => true
  | _ => false
def eqDf : D → D → Bool
  | .non, .non => true
  | .bl a, .bl b => a == b
  | .bl a, .int b => (if a then 1 else 0) == b
  | .int a, .bl b => a == (if b then 1 else 0)
  | .int a, .int b => a == b
  | .str a, .str b => a == b
  | _, _ => false
def vOf : D → V
  | .non => .non
  | .bl b => .bl b
  | .int i => .int i
  | .str x => .str x
  | _ => .non
theorem flat_v {K : KW} {F : Hp} {v : V} {d : D} (r : Rep K F v d) (h : flatD d = true) : v = vOf d ∧ flatV v = true := by
  cases r <;> first | exact ⟨rfl, rfl⟩ | cases h
theorem eq_vOf {d e : D} (hd : flatD d = true) (he : flatD e = true) : eqV (vOf d) (vOf e) = eqDf d e := by
  cases d <;> cases e <;> first | rfl | (simp [flatD] at he; done) | (simp [flatD] at hd; done)
theorem flat_vs {K : KW} {F : Hp} : ∀ {vs : List V} {ds : List D}, RepL K F vs ds → ds.all flatD = true → vs = ds.map vOf ∧ vs.all flatV = true
  | _, _, .nil, _ => ⟨rfl, rfl⟩
  | _, _, .cons a r, h => by
    rw [List.all_cons, Bool.and_eq_true] at h
    obtain ⟨h1, h2⟩ := flat_v a h.1
    obtain ⟨h3, h4⟩ := flat_vs r h.2
    exact ⟨by rw [List.map_cons, ← h1, ← h3], by rw [List.all_cons, h2, h4]; rfl⟩
def inD (x : D) (xs : List D) : Bool := xs.any fun y => eqDf y x
theorem in_v {x : D} {ds : List D} (hx : flatD x = true) (h : ds.all flatD = true) : inV (vOf x) (ds.map vOf) = inD x ds := by
  unfold inV inD
  rw [List.any_map]
  apply Bool.eq_iff_iff.mpr
  rw [List.any_eq_true, List.any_eq_true]
  constructor
  · rintro ⟨d, hm, e⟩
    exact ⟨d, hm, by rw [← eq_vOf (List.all_eq_true.mp h d hm) hx]; exact e⟩
  · rintro ⟨d, hm, e⟩
    exact ⟨d, hm, by rw [← eq_vOf (List.all_eq_true.mp h d hm) hx] at e; exact e⟩
def dIn (n : Bool) : D → D → Option An := fun d e => match seqD e with
  | some ds => if (flatD d && ds.all flatD) = true then some (.val (.bl (n != inD d ds))) else none
  | none => none
theorem RdRel.flat {K : KW} {F H : Hp} {v : V} {d : D} (r : RdRel K F H v d) (h : flatD d = true) : v = vOf d ∧ flatV v = true := by
  cases r with
  | fz r => exact flat_v r h
  | lst hv hd hh r => subst hd; cases h
  | ins hv hd hh hl r => subst hd; cases h
theorem snd_in {K : KW} {n : Bool} : Snd2 K (rIn K.K n) (dIn n) := fun F H x y d e an Q s rx ry hg q => by
  unfold dIn at hg
  split at hg
  · rename_i ds hd
    split at hg
    · rename_i h
      cases hg
      obtain ⟨f1, f2⟩ := Bool.and_eq_true_iff.mp h
      obtain ⟨a, vs, rfl, hq, rr⟩ := ry.seq s hd
      obtain ⟨g1, g2⟩ := rx.flat f1
      obtain ⟨g3, g4⟩ := flat_vs rr f2
      refine ⟨a, vs, rfl, hq.elim .inr .inl, g2, g4, ?_⟩
      have := q _ (.bl _)
      rw [g1, g3, in_v f1 f2]
      cases n with
      | true => simpa using this
      | false => simpa using this
    · cases hg
  · cases hg
def dInS (n : Bool) : D → D → Option An
  | .str c, .str z => if c.length = 1 then some (.val (.bl (n != decide (c.cps.getD 0 0 ∈ z.cps.toList)))) else none
  | _, _ => none
section
variable {X : Cx} {W : WX}
theorem fe_lt {a b : Expr} {fa fb : Sl → MM SV} {pos : Pos} (ha : FE X W a fa) (hb : FE X W b fb) : FE X W (.Compare a [.Lt] [b] pos) (b2 false dLt fa fb) := fe_cmp (op_lt.or op_lt_str) (Snd2.or snd_B snd_dS) ha hb (nomark _)
theorem ft_lt {a b : Expr} {fa fb : Sl → MM SV} {pos : Pos} (ha : FE X W a fa) (hb : FE X W b fb) : FT X W (.Compare a [.Lt] [b] pos) (sB (b2 false dLt fa fb)) := ft_cmp (op_lt.or op_lt_str) (Snd2.or snd_B snd_dS) ha hb (nomark _)
theorem fe_le {a b : Expr} {fa fb : Sl → MM SV} {pos : Pos} (ha : FE X W a fa) (hb : FE X W b fb) : FE X W (.Compare a [.LtE] [b] pos) (b2 false dLe fa fb) := fe_cmp (op_le.or op_le_str) (Snd2.or snd_B snd_dS) ha hb (nomark _)
theorem ft_le {a b : Expr} {fa fb : Sl → MM SV} {pos : Pos} (ha : FE X W a fa) (hb : FE X W b fb) : FT X W (.Compare a [.LtE] [b] pos) (sB (b2 false dLe fa fb)) := ft_cmp (op_le.or op_le_str) (Snd2.or snd_B snd_dS) ha hb (nomark _)
theorem fe_gt {a b : Expr} {fa fb : Sl → MM SV} {pos : Pos} (ha : FE X W a fa) (hb : FE X W b fb) : FE X W (.Compare a [.Gt] [b] pos) (b2 false dGt fa fb) := fe_cmp (op_gt.or op_gt_str) (Snd2.or snd_B snd_dS) ha hb (nomark _)
theorem ft_gt {a b : Expr} {fa fb : Sl → MM SV} {pos : Pos} (ha : FE X W a fa) (hb : FE X W b fb) : FT X W (.Compare a [.Gt] [b] pos) (sB (b2 false dGt fa fb)) := ft_cmp (op_gt.or op_gt_str) (Snd2.or snd_B snd_dS) ha hb (nomark _)
theorem fe_ge {a b : Expr} {fa fb : Sl → MM SV} {pos : Pos} (ha : FE X W a fa) (hb : FE X W b fb) : FE X W (.Compare a [.GtE] [b] pos) (b2 false dGe fa fb) := fe_cmp (op_ge.or op_ge_str) (Snd2.or snd_B snd_dS) ha hb (nomark _)
theorem ft_ge {a b : Expr} {fa fb : Sl → MM SV} {pos : Pos} (ha : FE X W a fa) (hb : FE X W b fb) : FT X W (.Compare a [.GtE] [b] pos) (sB (b2 false dGe fa fb)) := ft_cmp (op_ge.or op_ge_str) (Snd2.or snd_B snd_dS) ha hb (nomark _)
theorem fe_eq {a b : Expr} {fa fb : Sl → MM SV} {pos : Pos} (hu : X.A.units + 64 < cLine) (ha : FE X W a fa) (hb : FE X W b fb) : FE X W (.Compare a [.Eq] [b] pos) (b2 false (dEq false) fa fb) := fe_cmp (op_eqD hu) snd_eq ha hb (nomark _)
theorem ft_eq {a b : Expr} {fa fb : Sl → MM SV} {pos : Pos} (hu : X.A.units + 64 < cLine) (ha : FE X W a fa) (hb : FE X W b fb) : FT X W (.Compare a [.Eq] [b] pos) (sB (b2 false (dEq false) fa fb)) := ft_cmp (op_eqD hu) snd_eq ha hb (nomark _)
theorem fe_ne {a b : Expr} {fa fb : Sl → MM SV} {pos : Pos} (hu : X.A.units + 64 < cLine) (ha : FE X W a fa) (hb : FE X W b fb) : FE X W (.Compare a [.NotEq] [b] pos) (b2 false (dEq true) fa fb) := fe_cmp (op_neD hu) snd_ne ha hb (nomark _)
theorem ft_ne {a b : Expr} {fa fb : Sl → MM SV} {pos : Pos} (hu : X.A.units + 64 < cLine) (ha : FE X W a fa) (hb : FE X W b fb) : FT X W (.Compare a [.NotEq] [b] pos) (sB (b2 false (dEq true) fa fb)) := ft_cmp (op_neD hu) snd_ne ha hb (nomark _)
theorem fe_is {a b : Expr} {fa fb : Sl → MM SV} {pos : Pos} (ha : FE X W a fa) (hb : FE X W b fb) : FE X W (.Compare a [.Is] [b] pos) (b2 false (dIsN false) fa fb) := fe_cmp op_isN snd_isN ha hb (nomark _)
theorem ft_is {a b : Expr} {fa fb : Sl → MM SV} {pos : Pos} (ha : FE X W a fa) (hb : FE X W b fb) : FT X W (.Compare a [.Is] [b] pos) (sB (b2 false (dIsN false) fa fb)) := ft_cmp op_isN snd_isN ha hb (nomark _)
theorem fe_isnt {a b : Expr} {fa fb : Sl → MM SV} {pos : Pos} (ha : FE X W a fa) (hb : FE X W b fb) : FE X W (.Compare a [.IsNot] [b] pos) (b2 false (dIsN true) fa fb) := fe_cmp op_notN snd_notN ha hb (nomark _)
theorem ft_isnt {a b : Expr} {fa fb : Sl → MM SV} {pos : Pos} (ha : FE X W a fa) (hb : FE X W b fb) : FT X W (.Compare a [.IsNot] [b] pos) (sB (b2 false (dIsN true) fa fb)) := ft_cmp op_notN snd_notN ha hb (nomark _)
theorem fe_in {a b : Expr} {fa fb : Sl → MM SV} {pos : Pos} (ha : FE X W a fa) (hb : FE X W b fb) (hm : behindInMarks .In b = false := by rfl) : FE X W (.Compare a [.In] [b] pos) (b2 false (dIn false) fa fb) := fe_cmp op_in_seq snd_in ha hb hm
theorem ft_in {a b : Expr} {fa fb : Sl → MM SV} {pos : Pos} (ha : FE X W a fa) (hb : FE X W b fb) (hm : behindInMarks .In b = false := by rfl) : FT X W (.Compare a [.In] [b] pos) (sB (b2 false (dIn false) fa fb)) := ft_cmp op_in_seq snd_in ha hb hm
theorem fe_nin {a b : Expr} {fa fb : Sl → MM SV} {pos : Pos} (ha : FE X W a fa) (hb : FE X W b fb) (hm : behindInMarks .NotIn b = false := by rfl) : FE X W (.Compare a [.NotIn] [b] pos) (b2 false (dIn true) fa fb) := fe_cmp op_notIn_seq snd_in ha hb hm
theorem ft_nin {a b : Expr} {fa fb : Sl → MM SV} {pos : Pos} (ha : FE X W a fa) (hb : FE X W b fb) (hm : behindInMarks .NotIn b = false := by rfl) : FT X W (.Compare a [.NotIn] [b] pos) (sB (b2 false (dIn true) fa fb)) := ft_cmp op_notIn_seq snd_in ha hb hm

/-! ### subscripts, slices -/
def dIx : D → D → Option An
  | .str z, .int i => if z.length ≤ sizeLine then (atI z.cps.toList i).map fun c => .val (.str ⟨#[c]⟩) else none
  | d, .int i => (seqD d).bind fun ds => (atI ds i).map .val
  | _, _ => none
theorem RepL.at {K : KW} {F : Hp} {vs : List V} {ds : List D} {i : Int} {d : D} (r : RepL K F vs ds) (h : atI ds i = some d) : ∃ v, atI vs i = some v ∧ Rep K F v d := by
  unfold atI at h ⊢
  rw [r.length]
  cases q : ixN ds.length i with
  | none => rw [q] at h; cases h
  | some j =>
    rw [q] at h
    exact r.get h
theorem snd_ix {K : KW} : Snd2 K (rIx K.K) dIx := fun F H x y d e an Q s rx ry hg q => by
  have seq : ∀ {i : Int}, e = .int i → ((seqD d).bind fun ds => (atI ds i).map An.val) = some an → rIx K.K x y H Q := by
    intro i he h
    subst he
    cases h1 : seqD d with
    | none => rw [h1] at h; cases h
    | some ds =>
      rw [h1] at h
      have h' : (atI ds i).map An.val = some an := h
      cases h2 : atI ds i with
      | none => rw [h2] at h'; cases h'
      | some d' =>
        rw [h2] at h'; cases h'
        obtain ⟨a, vs, rfl, hq, rr⟩ := rx.seq s h1
        obtain ⟨v, hv, rv⟩ := rr.at h2
        rcases hq with hq | hq
        · exact .inr (.inl ⟨a, vs, i, v, rfl, ry.int, hq, hv, q v rv⟩)
        · exact .inl ⟨a, vs, i, v, rfl, ry.int, hq, hv, q v rv⟩
  unfold dIx at hg
  split at hg
  · rename_i z i
    split at hg
    · rename_i hl
      cases h2 : atI z.cps.toList i with
      | none => rw [h2] at hg; cases hg
      | some c =>
        rw [h2] at hg; cases hg
        exact .inr (.inr ⟨z, i, c, rx.str, ry.int, hl, h2, q _ (.str _)⟩)
    · cases hg
  · rename_i i _
    exact seq rfl hg
  · cases hg
theorem fe_sub1 {a b : Expr} {fa fb : Sl → MM SV} {pos : Pos} (ha : FE X W a fa) (hb : FE X W b fb) (hp : PlainIx b := by exact fun _ _ => rfl) : FE X W (.Subscript a b pos) (b2 false dIx fa fb) := fe_ix ix_seq snd_ix ha hb hp
/-- a slice's parts -/
structure FO (X : Cx) (W : WX) (e : Option Expr) (f : Sl → MM (Option Int)) : Prop where
  ex : ∃ te, PO X e te ∧ ∀ (σ : L2.St) (ss : Sl) (F : Hp) (as : AS) (S : Store) (H : Hp) (Q : Option Int → Hp → Prop) (o : Ou (Option Int)) (S' : Store), SlRel X.kw F as σ ss → SRel X.kw F as S H → f ss S = some (o, S') →
    Cont X.kw (WE W σ) F as S' o (fun x _ _ H' => Q x H') → te σ H Q
def oN : Sl → MM (Option Int) := fun _ => ret none
def oS (f : Sl → MM SV) : Sl → MM (Option Int) := fun ss => MM.bind (f ss) fun x => fun S => match x with
  | .sh (.int i) => some (.ok (some i), S)
  | _ => none
theorem fo_n : FO X W none oN := ⟨_, po_none, fun σ ss F as S H Q o S' hr s h c => by cases h; exact c F as H (Ext.refl _ _) s⟩
theorem fo_s {e : Expr} {f : Sl → MM SV} (h : FE X W e f) : FO X W (some e) (oS f) := by
  obtain ⟨te, p, snd⟩ := h.ex
  refine ⟨_, po_some p, fun σ ss F as S H Q o S' hr s h c => ?_⟩
  refine step (T := te σ H) (Rl := VR X) (fun Q o S' h c => snd σ ss F as S H Q o S' hr s h c) h c ?_
  intro x S1 F1 as1 H1 v h1 e1 s1 rv c1
  split at h1
  · cases h1
    exact ⟨_, Rep.int_of rv, c1 F1 as1 H1 (Ext.refl _ _) s1⟩
  · cases h1
def cutD (xs : List D) (lo hi : Option Int) : List D := (xs.drop (HT.sIx xs.length 0 lo)).take (HT.sIx xs.length xs.length hi - HT.sIx xs.length 0 lo)
def dSl (lo hi : Option Int) : D → Option An
  | .str z => if z.length ≤ sizeLine then some (.val (.str (cutS z lo hi))) else none
  | .lst ds => some (.lst (cutD ds lo hi))
  | .scr ds => some (.lst (cutD ds lo hi))
  | .tup ds => if (decide (HT.sIx ds.length 0 lo = 0) && decide (HT.sIx ds.length ds.length hi = ds.length)) = true then none else some (.tup (cutD ds lo hi))
  | _ => none
theorem RepL.cut {K : KW} {F : Hp} {vs : List V} {ds : List D} (r : RepL K F vs ds) (lo hi : Option Int) : RepL K F (cutV vs lo hi) (cutD ds lo hi) := by
  unfold cutV cutD
  rw [r.length]
  exact (r.drop _).take _
theorem snd_sl {K : KW} (lo hi : Option Int) : Snd1 K (fun x H Q => rSlL K.K x lo hi H Q ∨ (rSlT K.K x lo hi H Q ∨ rSlS x lo hi H Q)) (dSl lo hi) := fun F H x d an Q s rx hg q => by
  unfold dSl at hg
  split at hg
  · split at hg
    · rename_i h
      cases hg
      exact .inr (.inr ⟨_, rx.str, h, q _ (.str _)⟩)
    · cases hg
  · cases hg
    obtain ⟨a, vs, rfl, ha, ra⟩ := rx.isLst s
    exact .inl ⟨a, vs, rfl, SqL.of ha, fun p hp => q p _ hp (ra.cut lo hi)⟩
  · cases hg
    obtain ⟨a, vs, rfl, ha, ra⟩ := rx.isScr s
    exact .inl ⟨a, vs, rfl, ha, fun p hp => q p _ hp (ra.cut lo hi)⟩
  · split at hg
    · cases hg
    · rename_i h
      cases hg
      obtain ⟨a, vs, rfl, ha, ra⟩ := rx.isTup s
      exact .inr (.inl ⟨a, vs, rfl, SqT.of ha, by rw [ra.length]; simpa using h, fun p hp => q p _ hp (ra.cut lo hi)⟩)
  · cases hg
def bSl (c : Bool) (f : Sl → MM SV) (l h : Sl → MM (Option Int)) : Sl → MM SV := fun ss => MM.bind (f ss) fun x => MM.bind (l ss) fun lo => MM.bind (h ss) fun hi => s1 c (dSl lo hi) x
theorem stepO {β : Type} {K : KW} {E : XK} {F : Hp} {as : AS} {S : Store} {f : MM (Option Int)} {g : Option Int → MM β} {o : Ou β} {S' : Store} {G : β → Hp → AS → Hp → Prop}
    {R : Option Int → Hp → Prop} {T : (Option Int → Hp → Prop) → Prop}
    (snd : ∀ (Q : Option Int → Hp → Prop) (o : Ou (Option Int)) (S' : Store), f S = some (o, S') → Cont K E F as S' o (fun x _ _ H' => Q x H') → T Q)
    (h : MM.bind f g S = some (o, S')) (c : Cont K E F as S' o G)
    (k : ∀ (x : Option Int) (S1 : Store) (F1 : Hp) (as1 : AS) (H1 : Hp), g x S1 = some (o, S') → Ext F as F1 as1 → SRel K F1 as1 S1 H1 → Cont K E F1 as1 S' o G → R x H1) : T R := by
  rcases bindE h with ⟨x, S1, h1, h2⟩ | ⟨x, S1, h1, h2⟩
  · exact snd R _ _ h1 fun F1 as1 H1 e s => k x S1 F1 as1 H1 h2 e s (c.step e)
  · cases h2
    exact snd R _ _ h1 fun F1 as1 H1 e s => c F1 as1 H1 e s
theorem fe_slice {e : Expr} {lo hi : Option Expr} {f : Sl → MM SV} {fl fh : Sl → MM (Option Int)} {pos p2 : Pos} (c : Bool) (he : FE X W e f) (hl : FO X W lo fl) (hh : FO X W hi fh) : FE X W (.Subscript e (.Slice lo hi none p2) pos) (bSl c f fl fh) := by
  obtain ⟨te, pe, se⟩ := he.ex
  obtain ⟨tl, pl, sl⟩ := hl.ex
  obtain ⟨th, ph, sh⟩ := hh.ex
  refine ⟨_, pe_slice (sl_list.or (sl_tup.or sl_str)) pe pl ph, fun σ ss F as S H Q o S' hr s h cn => ?_⟩
  refine step (T := te σ H) (Rl := VR X) (fun Q o S' h c => se σ ss F as S H Q o S' hr s h c) h cn ?_
  intro x S1 F1 as1 H1 v h1 e1 s1 rv c1
  refine stepO (T := tl σ H1) (fun Q o S' h c => sl σ ss F1 as1 S1 H1 Q o S' (hr.mono e1) s1 h c) h1 c1 ?_
  intro l S2 F2 as2 H2 h2 e2 s2 c2
  refine stepO (T := th σ H2) (fun Q o S' h c => sh σ ss F2 as2 S2 H2 Q o S' ((hr.mono e1).mono e2) s2 h c) h2 c2 ?_
  intro u S3 F3 as3 H3 h3 e3 s3 c3
  exact s1_ok (snd_sl l u) s3 ((rv.mono e2).mono e3) h3 c3
end
end FW

set_option Elab.async false
set_option linter.all false
set_option maxRecDepth 100000
/-! FW, part G: built-ins, methods, sets, what else is walked. -/
namespace FW
open PySem PySem.Spec PyProof.Rows L2

section
variable {K : KW}
theorem SndN.or {r r' : List V → Hp → VK → Prop} {g g' : List D → Option An} (h : SndN K r g) (h' : SndN K r' g') : SndN K (fun x H Q => r x H Q ∨ r' x H Q) (fun d => match g d with
    | some a => some a
    | none => g' d) := fun F H x d an Q s rx hg q => by
  cases e1 : g d with
  | some a => simp only [e1] at hg; cases hg; exact .inl (h F H x d an Q s rx e1 q)
  | none => simp only [e1] at hg; exact .inr (h' F H x d an Q s rx hg q)
theorem pair1 {F H : Hp} {xs : List V} {d : D} (r : Paired (RdRel K F H) xs [d]) : ∃ v, xs = [v] ∧ RdRel K F H v d := by
  cases r with | cons a r => cases r; exact ⟨_, rfl, a⟩
theorem pair2 {F H : Hp} {xs : List V} {d e : D} (r : Paired (RdRel K F H) xs [d, e]) : ∃ v w, xs = [v, w] ∧ RdRel K F H v d ∧ RdRel K F H w e := by
  cases r with | cons a r => cases r with | cons b r => cases r; exact ⟨_, _, rfl, a, b⟩
def on1 (f : D → Option An) : List D → Option An
  | [d] => f d
  | _ => none
def on2 (f : D → D → Option An) : List D → Option An
  | [d, e] => f d e
  | _ => none
/-! len -/
def dLen : D → Option An
  | .str y => if y.length ≤ sizeLine then some (.val (.int y.length)) else none
  | d => (seqD d).map fun ds => .val (.int ds.length)
theorem snd_len : SndN K (fun xs H Q => ∃ x n, xs = [x] ∧ LenV K.K x H n ∧ Q (.int n) H) (on1 dLen) := fun F H xs ds an Q s rx hg q => by
  unfold on1 at hg
  split at hg
  · rename_i d
    obtain ⟨v, rfl, r⟩ := pair1 rx
    unfold dLen at hg
    split at hg
    · rename_i y
      split at hg
      · rename_i hl
        cases hg
        refine ⟨v, y.length, rfl, ?_, q _ (.int _)⟩
        rw [r.str]; exact ⟨hl, rfl⟩
      · cases hg
    · cases h1 : seqD d with
      | none => rw [h1] at hg; cases hg
      | some es =>
        rw [h1] at hg; cases hg
        obtain ⟨a, vs, rfl, hq, rr⟩ := r.seq s h1
        exact ⟨.ref a, es.length, rfl, hq.elim (fun z => .inr ⟨vs, z, rr.length.symm⟩) (fun z => .inl ⟨vs, z, rr.length.symm⟩), q _ (.int _)⟩
  · cases hg
/-! int(..) -/
def dInt : D → Option An
  | .int i => some (.val (.int i))
  | .bl b => some (.val (.int (if b then 1 else 0)))
  | _ => none
theorem snd_int : SndN K (fun xs H Q => (∃ i, xs = [.int i] ∧ Q (.int i) H) ∨ ∃ k, xs = [.bl k] ∧ Q (.int (if k then 1 else 0)) H) (on1 dInt) := fun F H xs ds an Q s rx hg q => by
  unfold on1 at hg
  split at hg
  · rename_i d
    obtain ⟨v, rfl, r⟩ := pair1 rx
    unfold dInt at hg
    split at hg
    · cases hg; exact .inl ⟨_, by rw [r.int], q _ (.int _)⟩
    · cases hg; exact .inr ⟨_, by rw [r.bl], q _ (.int _)⟩
    · cases hg
  · cases hg
/-! list(..), tuple(..) of a list or tuple -/
def dListOf : D → Option An := fun d => (seqD d).map .lst
theorem snd_listOf : SndN K (fun xs H Q => ∃ p ys, xs = [.ref p] ∧ (SqL K.K H p ys ∨ SqT K.K H p ys) ∧ ∀ l, H l = none → Q (.ref l) (upd H l (.lst ys))) (on1 dListOf) := fun F H xs ds an Q s rx hg q => by
  unfold on1 at hg
  split at hg
  · rename_i d
    obtain ⟨v, rfl, r⟩ := pair1 rx
    unfold dListOf at hg
    cases h1 : seqD d with
    | none => rw [h1] at hg; cases hg
    | some es =>
      rw [h1] at hg; cases hg
      obtain ⟨a, vs, rfl, hq, rr⟩ := r.seq s h1
      exact ⟨a, vs, rfl, hq.elim .inr .inl, fun l hl => q l vs hl rr⟩
  · cases hg
def dTupOf : D → Option An
  | .lst ds => some (.tup ds)
  | .scr ds => some (.tup ds)
  | .tup ds => some (.val (.tup ds))
  | _ => none
theorem snd_tupOf : SndN K (fun xs H Q => ∃ p ys, xs = [.ref p] ∧ ((SqL K.K H p ys ∧ ∀ l, H l = none → Q (.ref l) (upd H l (.tup ys))) ∨ (SqT K.K H p ys ∧ Q (.ref p) H))) (on1 dTupOf) := fun F H xs ds an Q s rx hg q => by
  unfold on1 at hg
  split at hg
  · rename_i d
    obtain ⟨v, rfl, r⟩ := pair1 rx
    unfold dTupOf at hg
    split at hg
    · cases hg
      obtain ⟨a, vs, rfl, ha, rr⟩ := r.isLst s
      exact ⟨a, vs, rfl, .inl ⟨SqL.of ha, fun l hl => q l vs hl rr⟩⟩
    · cases hg
      obtain ⟨a, vs, rfl, ha, rr⟩ := r.isScr s
      exact ⟨a, vs, rfl, .inl ⟨ha, fun l hl => q l vs hl rr⟩⟩
    · cases hg
      cases r with
      | fz r => cases r with | tup h rr => exact ⟨_, _, rfl, .inr ⟨SqT.of (s _ _ h), q _ (.tup h rr)⟩⟩
      | lst _ hd _ _ => cases hd
      | ins _ hd _ _ _ => cases hd
    · cases hg
  · cases hg
/-! max, all -/
def intsD : List D → Option (List Int)
  | [] => some []
  | .int i :: r => (intsD r).map (i :: ·)
  | _ => none
def blsD : List D → Option (List Bool)
  | [] => some []
  | .bl i :: r => (blsD r).map (i :: ·)
  | _ => none
def strsD : List D → Option (List Str)
  | [] => some []
  | .str i :: r => (strsD r).map (i :: ·)
  | _ => none
theorem intsD_eq : ∀ {ds : List D} {ns : List Int}, intsD ds = some ns → ds = ns.map D.int
  | [], _, h => by cases h; rfl
  | d :: r, ns, h => by
    cases d <;> first
      | (have h' : (intsD r).map (_ :: ·) = some ns := h
         cases e : intsD r with
         | none => rw [e] at h'; cases h'
         | some ms => rw [e] at h'; cases h'; rw [intsD_eq e]; rfl)
      | exact nomatch h
theorem blsD_eq : ∀ {ds : List D} {ns : List Bool}, blsD ds = some ns → ds = ns.map D.bl
  | [], _, h => by cases h; rfl
  | d :: r, ns, h => by
    cases d <;> first
      | (have h' : (blsD r).map (_ :: ·) = some ns := h
         cases e : blsD r with
         | none => rw [e] at h'; cases h'
         | some ms => rw [e] at h'; cases h'; rw [blsD_eq e]; rfl)
      | exact nomatch h
theorem strsD_eq : ∀ {ds : List D} {ns : List Str}, strsD ds = some ns → ds = ns.map D.str
  | [], _, h => by cases h; rfl
  | d :: r, ns, h => by
    cases d <;> first
      | (have h' : (strsD r).map (_ :: ·) = some ns := h
         cases e : strsD r with
         | none => rw [e] at h'; cases h'
         | some ms => rw [e] at h'; cases h'; rw [strsD_eq e]; rfl)
      | exact nomatch h
theorem intsD_map (ns : List Int) : intsD (ns.map D.int) = some ns := by
  induction ns with
  | nil => rfl
  | cons n r ih => show (intsD (r.map D.int)).map (n :: ·) = _; rw [ih]; rfl
theorem blsD_map (ns : List Bool) : blsD (ns.map D.bl) = some ns := by
  induction ns with
  | nil => rfl
  | cons n r ih => show (blsD (r.map D.bl)).map (n :: ·) = _; rw [ih]; rfl
theorem strsD_map (ns : List Str) : strsD (ns.map D.str) = some ns := by
  induction ns with
  | nil => rfl
  | cons n r ih => show (strsD (r.map D.str)).map (n :: ·) = _; rw [ih]; rfl
theorem RepL.of_bls {F : Hp} : ∀ {ns : List Bool} {vs : List V}, RepL K F vs (ns.map D.bl) → vs = ns.map V.bl
  | [], _, .nil => rfl
  | n :: r, _, .cons (.bl _) q => by rw [RepL.of_bls q]; rfl
/-- a list or the script (not a tuple) -/
def lstD : D → Option (List D)
  | .lst ds => some ds
  | .scr ds => some ds
  | _ => none
theorem RdRel.lstD {F H : Hp} {v : V} {d : D} {ds : List D} (r : RdRel K F H v d) (s : Same F H) (e : lstD d = some ds) : ∃ a vs, v = .ref a ∧ SqL K.K H a vs ∧ RepL K F vs ds := by
  cases d with
  | lst es => cases e; obtain ⟨a, vs, h1, h2, h3⟩ := r.isLst s; exact ⟨a, vs, h1, SqL.of h2, h3⟩
  | scr es => cases e; obtain ⟨a, vs, h1, h2, h3⟩ := r.isScr s; exact ⟨a, vs, h1, h2, h3⟩
  | _ => cases e
def maxI : List Int → Int
  | [] => 0
  | [a] => a
  | a :: r => max a (maxI r)
theorem maxI_le : ∀ {l : List Int} {y : Int}, y ∈ l → y ≤ maxI l
  | [a], y, h => by simp at h; subst h; exact Int.le_refl _
  | a :: b :: r, y, h => by
    show y ≤ max a (maxI (b :: r))
    rcases List.mem_cons.mp h with e | e
    · subst e; omega
    · have := maxI_le (l := b :: r) e; omega
theorem maxI_mem : ∀ {l : List Int}, l ≠ [] → maxI l ∈ l
  | [], h => absurd rfl h
  | [a], _ => by simp [maxI]
  | a :: b :: r, _ => by
    show max a (maxI (b :: r)) ∈ _
    have := maxI_mem (l := b :: r) (by simp)
    rcases Int.le_total a (maxI (b :: r)) with q | q
    · rw [Int.max_eq_right q]; exact List.mem_cons_of_mem _ this
    · rw [Int.max_eq_left q]; exact List.mem_cons_self
def dMax : D → Option An := fun d => (lstD d).bind fun ds => (intsD ds).bind fun ns => if 0 < ns.length then some (.val (.int (maxI ns))) else none
theorem snd_max : SndN K (rMax K.K) (on1 dMax) := fun F H xs ds an Q s rx hg q => by
  unfold on1 at hg
  split at hg
  · rename_i d
    obtain ⟨v, rfl, r⟩ := pair1 rx
    unfold dMax at hg
    cases h1 : lstD d with
    | none => rw [h1] at hg; cases hg
    | some es =>
      rw [h1] at hg
      cases h2 : intsD es with
      | none => simp [h2] at hg
      | some ns =>
        simp only [h2, Option.bind_some] at hg
        split at hg
        · rename_i hl
          cases hg
          obtain ⟨a, vs, rfl, hq, rr⟩ := r.lstD s h1
          rw [intsD_eq h2] at rr
          rw [rr.of_ints] at hq
          refine ⟨a, ns, rfl, hq, hl, fun m hm hy => ?_⟩
          have : m = maxI ns := Int.le_antisymm (maxI_le hm) (hy _ (maxI_mem (by intro z; rw [z] at hl; simp at hl)))
          rw [this]
          exact q _ (.int _)
        · cases hg
  · cases hg
def dAll : D → Option An := fun d => (lstD d).bind fun ds => (blsD ds).map fun bs => .val (.bl (bs.all id))
theorem snd_all : SndN K (rAll K.K) (on1 dAll) := fun F H xs ds an Q s rx hg q => by
  unfold on1 at hg
  split at hg
  · rename_i d
    obtain ⟨v, rfl, r⟩ := pair1 rx
    unfold dAll at hg
    cases h1 : lstD d with
    | none => rw [h1] at hg; cases hg
    | some es =>
      rw [h1] at hg
      cases h2 : blsD es with
      | none => simp [h2] at hg
      | some ns =>
        simp only [h2, Option.bind_some, Option.map_some] at hg
        cases hg
        obtain ⟨a, vs, rfl, hq, rr⟩ := r.lstD s h1
        rw [blsD_eq h2] at rr
        rw [rr.of_bls] at hq
        exact ⟨a, ns, rfl, hq, q _ (.bl _)⟩
  · cases hg
/-! divmod -/
def dDivmod : D → D → Option An
  | .int i, .int j => if 0 < j ∧ j < 1073741824 then some (.tup [.int (i / j), .int (i % j)]) else none
  | _, _ => none
theorem snd_divmod : SndN K (fun xs H Q => ∃ i j, xs = [.int i, .int j] ∧ CDiv i j ∧ ∀ p, H p = none → Q (.ref p) (upd H p (.tup [.int (i / j), .int (i % j)]))) (on2 dDivmod) := fun F H xs ds an Q s rx hg q => by
  unfold on2 at hg
  split at hg
  · obtain ⟨v, w, rfl, r1, r2⟩ := pair2 rx
    unfold dDivmod at hg
    split at hg
    · split at hg
      · rename_i h
        cases hg
        exact ⟨_, _, by rw [r1.int, r2.int], h, fun p hp => q p _ hp (.cons (.int _) (.cons (.int _) .nil))⟩
      · cases hg
    · cases hg
  · cases hg
/-! isinstance, built-in types -/
def tyN : D → Option String
  | .non => some "NoneType"
  | .bl _ => some "bool"
  | .int _ => some "int"
  | .str _ => some "str"
  | .lst _ => some "list"
  | .tup _ => some "tuple"
  | _ => none
theorem tyN_ok {F H : Hp} {v : V} {d : D} {n : String} (r : RdRel K F H v d) (s : Same F H) (h : tyN d = some n) : TyX K.K H v (.type n) := by
  cases d with
  | non => cases h; rw [r.non]; exact .base .non
  | bl b => cases h; rw [r.bl]; exact .base (.bl b)
  | int b => cases h; rw [r.int]; exact .base (.int b)
  | str b => cases h; rw [r.str]; exact .base (.str b)
  | lst ds => cases h; obtain ⟨a, vs, rfl, ha, rr⟩ := r.isLst s; exact .base (.lst ha)
  | tup ds => cases h; obtain ⟨a, vs, rfl, ha, rr⟩ := r.isTup s; exact .base (.tup ha)
  | _ => cases h
def dIsi : D → D → Option An := fun d t => match tyN d, t with
  | some n, .ty m => (kitB n m).map fun b => .val (.bl b)
  | _, _ => none
theorem snd_isi : SndN K (rIsi K.K) (on2 dIsi) := fun F H xs ds an Q s rx hg q => by
  unfold on2 at hg
  split at hg
  · obtain ⟨v, w, rfl, r1, r2⟩ := pair2 rx
    unfold dIsi at hg
    split at hg
    · rename_i n m hn
      cases e : kitB n m with
      | none => rw [e] at hg; cases hg
      | some b =>
        rw [e] at hg; cases hg
        refine ⟨v, w, .type n, .type m, b, rfl, ?_, tyN_ok r1 s hn, kit_ty e, q _ (.bl _)⟩
        rw [r2.ty]
        exact .ty m
    · cases hg
  · cases hg
/-! sorted of texts -/
def dSort : D → Option An := fun d => match d with
  | .set xs => if xs.length < 64 then some (.lst ((FwS.sortS xs).map D.str)) else none
  | d => (lstD d).bind fun ds => (strsD ds).bind fun xs => if xs.length < 64 then some (.lst ((FwS.sortS xs).map D.str)) else none
theorem RdRel.isSet {F H : Hp} {v : V} {xs : List Str} (r : RdRel K F H v (.set xs)) (s : Same F H) : ∃ a, v = .ref a ∧ H a = some (FwS.SetSO K.w a xs) := by
  cases r with
  | fz r => cases r with | set h => exact ⟨_, rfl, s _ _ h⟩
  | lst _ hd _ _ => cases hd
  | ins _ hd _ _ _ => cases hd
theorem snd_sort : SndN K (fun vs H Q => FwS.rSortSet K.w vs H Q ∨ rSortedS K.K vs H Q) (on1 dSort) := fun F H xs ds an Q s rx hg q => by
  unfold on1 at hg
  split at hg
  · rename_i d
    obtain ⟨v, rfl, r⟩ := pair1 rx
    unfold dSort at hg
    split at hg
    · rename_i ys
      split at hg
      · rename_i hl
        cases hg
        obtain ⟨a, rfl, ha⟩ := r.isSet s
        exact .inl ⟨a, ys, rfl, ha, hl, fun p hp => q p _ hp (RepL.strs _)⟩
      · cases hg
    · cases h1 : lstD d with
      | none => rw [h1] at hg; cases hg
      | some es =>
        rw [h1] at hg
        cases h2 : strsD es with
        | none => simp [h2] at hg
        | some ns =>
          simp only [h2, Option.bind_some] at hg
          split at hg
          · rename_i hl
            cases hg
            obtain ⟨a, vs, rfl, hq, rr⟩ := r.lstD s h1
            rw [strsD_eq h2] at rr
            rw [rr.of_strs] at hq
            refine .inr ⟨a, ns, rfl, hq, hl, fun ys p hp hs hn => ?_⟩
            rw [FwS.sortS_uniq hp hs]
            exact q p _ hn (RepL.strs _)
          · cases hg
  · cases hg
end
/-- two rules for one call -/
theorem callR_or {X : Cx} {f : Value} {r r' : List V → Hp → VK → Prop} (h : CallR X f r) (h' : CallR X f r') : CallR X f (fun xs H Q => r xs H Q ∨ r' xs H Q) := fun pins s σ H xs us Q I rx q =>
  q.elim (h pins s σ H xs us Q I rx) (h' pins s σ H xs us Q I rx)

section
variable {X : Cx} {W : WX}
/-! ### methods of built-in types, by data -/
def SndM (K : KW) (r : V → List V → Hp → VK → Prop) (g : D → List D → Option An) : Prop := ∀ (F H : Hp) (x : V) (d : D) (xs : List V) (ds : List D) (an : An) (Q : VK), Same F H → RdRel K F H x d → Paired (RdRel K F H) xs ds → g d ds = some an → an.ask K F H Q → r x xs H Q
def tyM (T : String) : D → Bool
  | .str _ => T == "str"
  | .lst _ => T == "list"
  | .scr _ => T == "list"
  | _ => false
theorem tyM_ok {K : KW} {F H : Hp} {v : V} {d : D} {T : String} (r : RdRel K F H v d) (s : Same F H) (h : tyM T d = true) : tyV K.K T v H := by
  cases d with
  | str y => rw [r.str]; exact eq_of_beq h
  | lst ds => obtain ⟨a, vs, rfl, ha, rr⟩ := r.isLst s; exact .inl ⟨eq_of_beq h, vs, SqL.of ha⟩
  | scr ds => obtain ⟨a, vs, rfl, ha, rr⟩ := r.isScr s; exact .inl ⟨eq_of_beq h, vs, ha⟩
  | _ => cases h
def sM (T : String) (c : Bool) (g : D → List D → Option An) (f : Sl → MM SV) (ga : Sl → MM (List SV)) : Sl → MM SV := fun ss => MM.bind (f ss) fun x => fun S => match lookD S x with
  | some d => if tyM T d = true then MM.bind (ga ss) (fun xs S2 => match lookD S2 x, lookA S2 xs with
    | some d, some ds => match g d ds with
      | some an => an.go c S2
      | none => none
    | _, _ => none) S else none
  | none => none
theorem fe_bm {T id : String} {name : Str} {o e : Expr} {es : List Expr} {r : V → List V → Hp → VK → Prop} {g : D → List D → Option An} {f : Sl → MM SV} {ga : Sl → MM (List SV)} {apos cpos : Pos} (c : Bool) (pa : PlainAttrs T) (slot : Slot T name id) (hty : typeOf (.builtin id) = pure (.type "method_descriptor")) (hm : MtR X id r) (hs : SndM X.kw r g)
    (ho : FE X W o f) (ha : FA X W (e :: es) ga) (hbase : attributeBase o name X.env (eval o X.env) = eval o X.env := by rfl)
    (hfew : ((backTo cpos (starEach (e :: es) X.env)).all (fun x => !x.1) && (backToKw cpos (keywordEach [] X.env)).all (fun x => x.1.isSome)
      && decide ((e :: es).length + ([] : List Keyword).length + (if ([] : List Keyword).isEmpty then 0 else 1) < 30)) = true := by rfl)
    (hline : (apos.endLine == cpos.line) = true := by rfl) (hst : starEach (e :: es) X.env = (false, eval e X.env) :: starEach es X.env := by rfl) (hplain : (backTo cpos (starEach es X.env)).any (·.1) = false := by rfl) :
    FE X W (.Call (.Attribute o name apos) (e :: es) [] cpos) (sM T c g f ga) := by
  obtain ⟨to, po, so⟩ := ho.ex
  obtain ⟨ta, pa', sa⟩ := ha.ex
  refine ⟨_, pe_bm pa slot hty hm po pa' hbase hfew hline hst hplain, fun σ ss F as S H Q ou S' hr s h cn => ?_⟩
  refine step (T := to σ H) (Rl := VR X) (fun Q o S' h c => so σ ss F as S H Q o S' hr s h c) h cn ?_
  intro x S1 F1 as1 H1 v h1 e1 s1 rv c1
  split at h1
  · rename_i d hd
    split at h1
    · rename_i ht
      refine ⟨tyM_ok (look_ok s1 rv hd) s1.ff ht, ?_⟩
      refine step (T := ta σ H1) (Rl := fun F' as' v x => VsRel X.kw F' as' v x) (fun Q o S' h c => sa σ ss F1 as1 S1 H1 Q o S' (hr.mono e1) s1 h c) h1 c1 ?_
      intro xs S2 F2 as2 H2 vs h2 e2 s2 rvs c2
      split at h2
      · rename_i d2 ds e3 e4
        split at h2
        · rename_i an ea
          exact hs F2 H2 v d2 vs ds an Q s2.ff (look_ok s2 (rv.mono e2) e3) (lookA_ok s2 rvs e4) ea (An.fin s2 h2 c2)
        · cases h2
      · cases h2
    · cases h1
  · cases h1
/-! sep.join(xs) -/
def dJoin : D → List D → Option An
  | .str a, [d] => (seqD d).bind fun ds => (strsD ds).bind fun ys => if (ys.map (·.length)).sum + ys.length * a.length ≤ 16777216 then some (.val (.str (Txt.join a ys))) else none
  | _, _ => none
theorem snd_join {K : KW} : SndM K (fun x xs H Q => ∃ a p, ∃ ys : List Str, x = .str a ∧ xs = [.ref p] ∧ (SqL K.K H p (ys.map V.str) ∨ SqT K.K H p (ys.map V.str)) ∧
    (ys.map (·.length)).sum + ys.length * a.length ≤ 16777216 ∧ Q (.str (Txt.join a ys)) H) dJoin := fun F H x d xs ds an Q s rx rxs hg q => by
  unfold dJoin at hg
  split at hg
  · rename_i a e
    obtain ⟨v, rfl, r⟩ := pair1 rxs
    cases h1 : seqD e with
    | none => rw [h1] at hg; cases hg
    | some es =>
      rw [h1] at hg
      cases h2 : strsD es with
      | none => simp [h2] at hg
      | some ns =>
        simp only [h2, Option.bind_some] at hg
        split at hg
        · rename_i hl
          cases hg
          obtain ⟨p, vs, rfl, hq, rr⟩ := r.seq s h1
          rw [strsD_eq h2] at rr
          rw [rr.of_strs] at hq
          exact ⟨a, p, ns, rx.str, rfl, hq.elim .inr .inl, hl, q _ (.str _)⟩
        · cases hg
  · cases hg
theorem fe_join {o e : Expr} {f : Sl → MM SV} {ga : Sl → MM (List SV)} {apos cpos : Pos} (ho : FE X W o f) (ha : FA X W [e] ga) (hbase : attributeBase o "join" X.env (eval o X.env) = eval o X.env := by rfl)
    (hfew : ((backTo cpos (starEach [e] X.env)).all (fun x => !x.1) && (backToKw cpos (keywordEach [] X.env)).all (fun x => x.1.isSome)
      && decide ([e].length + ([] : List Keyword).length + (if ([] : List Keyword).isEmpty then 0 else 1) < 30)) = true := by rfl)
    (hline : (apos.endLine == cpos.line) = true := by rfl) (hst : starEach [e] X.env = (false, eval e X.env) :: starEach [] X.env := by rfl) (hplain : (backTo cpos (starEach [] X.env)).any (·.1) = false := by rfl) :
    FE X W (.Call (.Attribute o "join" apos) [e] [] cpos) (sM "str" false dJoin f ga) :=
  fe_bm false PySem.F.plainAttrs_str F.slot_str_join F.type_str_join mt_join snd_join ho ha hbase hfew hline hst hplain

/-! ### methods that change an own list -/
def cellL (S : Store) : SV → Option (Nat × List SV)
  | .cl k => match S[k]? with
    | some (.lst xs) => some (k, xs)
    | _ => none
  | _ => none
theorem cellL_ok {K : KW} {F H : Hp} {as : AS} {S : Store} {v : V} {x : SV} {k : Nat} {xs : List SV} (s : SRel K F as S H) (r : VRel K F as v x) (h : cellL S x = some (k, xs)) :
    ∃ a vs, v = .ref a ∧ as.l[k]? = some a ∧ F a = none ∧ H a = some (.lst vs) ∧ VsRel K F as vs xs := by
  unfold cellL at h
  split at h
  · rename_i j
    split at h
    · rename_i ys hy
      cases h
      obtain ⟨a, ha, rfl⟩ := r
      obtain ⟨f, vs, hH, rr⟩ := s.cell _ a _ ha hy
      exact ⟨a, vs, rfl, ha, f, hH, rr⟩
    · cases h
  · cases h
/-- what the method does of the own list and the arguments: an answer and the list behind it -/
def sMut (u : List SV → List SV → Store → Option (SV × List SV)) (f : Sl → MM SV) (ga : Sl → MM (List SV)) : Sl → MM SV := fun ss => MM.bind (f ss) fun x => fun S => match cellL S x with
  | some _ => MM.bind (ga ss) (fun ys S2 => match cellL S2 x with
    | some (k, xs) => match u xs ys S2 with
      | some (z, xs') => some (.ok z, S2.set k (.lst xs'))
      | none => none
    | none => none) S
  | none => none
/-- a rule that changes the list at the receiver is told by u -/
def SndU (K : KW) (r : V → List V → Hp → VK → Prop) (u : List SV → List SV → Store → Option (SV × List SV)) : Prop := ∀ (F H : Hp) (as : AS) (S : Store) (a : Addr) (vs ws : List V) (xs ys xs' : List SV) (z : SV) (Q : VK), SRel K F as S H → H a = some (.lst vs) → VsRel K F as vs xs → VsRel K F as ws ys → u xs ys S = some (z, xs') →
  (∀ v vs', VRel K F as v z → VsRel K F as vs' xs' → Q v (upd H a (.lst vs'))) → r (.ref a) ws H Q
theorem mut_ok {K : KW} {E : XK} {F H : Hp} {as : AS} {S S' : Store} {o : Ou SV} {Q : VK} {r : V → List V → Hp → VK → Prop} {u : List SV → List SV → Store → Option (SV × List SV)} {v : V} {x : SV} {ws : List V} {ys : List SV} (hs : SndU K r u) (s : SRel K F as S H) (rx : VRel K F as v x) (ry : VsRel K F as ws ys)
    (h : (match cellL S x with
    | some (k, xs) => match u xs ys S with
      | some (z, xs') => some (Ou.ok z, S.set k (.lst xs'))
      | none => none
    | none => none) = some (o, S')) (c : Cont K E F as S' o (fun x F' as' H' => ∀ v, VRel K F' as' v x → Q v H')) : r v ws H Q := by
  split at h
  · rename_i k xs hk
    obtain ⟨a, vs, rfl, ha, fa, hH, rr⟩ := cellL_ok s rx hk
    split at h
    · rename_i z xs' hz
      cases h
      exact hs F H as S a vs ws xs ys xs' z Q s hH rr ry hz fun w vs' rw' rvs' => c F as _ (Ext.refl _ _) (s.write ha fa ⟨fa, vs', upd_same, rvs'⟩) w rw'
    · cases h
  · cases h
theorem fe_bmU {id : String} {name : Str} {o e : Expr} {es : List Expr} {r : V → List V → Hp → VK → Prop} {u : List SV → List SV → Store → Option (SV × List SV)} {f : Sl → MM SV} {ga : Sl → MM (List SV)} {apos cpos : Pos} (slot : Slot "list" name id) (hty : typeOf (.builtin id) = pure (.type "method_descriptor")) (hm : MtR X id r) (hs : SndU X.kw r u)
    (ho : FE X W o f) (ha : FA X W (e :: es) ga) (hbase : attributeBase o name X.env (eval o X.env) = eval o X.env := by rfl)
    (hfew : ((backTo cpos (starEach (e :: es) X.env)).all (fun x => !x.1) && (backToKw cpos (keywordEach [] X.env)).all (fun x => x.1.isSome)
      && decide ((e :: es).length + ([] : List Keyword).length + (if ([] : List Keyword).isEmpty then 0 else 1) < 30)) = true := by rfl)
    (hline : (apos.endLine == cpos.line) = true := by rfl) (hst : starEach (e :: es) X.env = (false, eval e X.env) :: starEach es X.env := by rfl) (hplain : (backTo cpos (starEach es X.env)).any (·.1) = false := by rfl) :
    FE X W (.Call (.Attribute o name apos) (e :: es) [] cpos) (sMut u f ga) := by
  obtain ⟨to, po, so⟩ := ho.ex
  obtain ⟨ta, pa', sa⟩ := ha.ex
  refine ⟨_, pe_bm PySem.F.plainAttrs_list slot hty hm po pa' hbase hfew hline hst hplain, fun σ ss F as S H Q ou S' hr s h cn => ?_⟩
  refine step (T := to σ H) (Rl := VR X) (fun Q o S' h c => so σ ss F as S H Q o S' hr s h c) h cn ?_
  intro x S1 F1 as1 H1 v h1 e1 s1 rv c1
  split at h1
  · rename_i q hq
    obtain ⟨k, xs⟩ := q
    obtain ⟨a, vs, rfl, ha', fa, hH, rr⟩ := cellL_ok s1 rv hq
    refine ⟨.inl ⟨rfl, vs, SqL.of hH⟩, ?_⟩
    refine step (T := ta σ H1) (Rl := fun F' as' v x => VsRel X.kw F' as' v x) (fun Q o S' h c => sa σ ss F1 as1 S1 H1 Q o S' (hr.mono e1) s1 h c) h1 c1 ?_
    intro ys S2 F2 as2 H2 ws h2 e2 s2 rvs c2
    exact mut_ok hs s2 (rv.mono e2) rvs h2 c2
  · cases h1
theorem fe_bmU0 {id : String} {name : Str} {o : Expr} {r : V → List V → Hp → VK → Prop} {u : List SV → List SV → Store → Option (SV × List SV)} {f : Sl → MM SV} {apos cpos : Pos} (slot : Slot "list" name id) (hty : typeOf (.builtin id) = pure (.type "method_descriptor")) (hm : MtR X id r) (hs : SndU X.kw r u)
    (ho : FE X W o f) (hbase : attributeBase o name X.env (eval o X.env) = eval o X.env := by rfl) (hline : (apos.endLine == cpos.line) = true := by rfl) : FE X W (.Call (.Attribute o name apos) [] [] cpos) (sMut u f aNil) := by
  obtain ⟨to, po, so⟩ := ho.ex
  refine ⟨_, pe_bm0 PySem.F.plainAttrs_list slot hty hm po hbase hline, fun σ ss F as S H Q ou S' hr s h cn => ?_⟩
  refine step (T := to σ H) (Rl := VR X) (fun Q o S' h c => so σ ss F as S H Q o S' hr s h c) h cn ?_
  intro x S1 F1 as1 H1 v h1 e1 s1 rv c1
  split at h1
  · rename_i q hq
    obtain ⟨k, xs⟩ := q
    obtain ⟨a, vs, rfl, ha', fa, hH, rr⟩ := cellL_ok s1 rv hq
    refine ⟨.inl ⟨rfl, vs, SqL.of hH⟩, ?_⟩
    exact mut_ok (ys := []) (ws := []) hs s1 rv .nil h1 c1
  · cases h1
def uAppend (xs ys : List SV) (_ : Store) : Option (SV × List SV) := match ys with
  | [y] => if xs.length < sizeLine then some (.sh .non, xs ++ [y]) else none
  | _ => none
theorem snd_append {K : KW} : SndU K rAppend uAppend := fun F H as S a vs ws xs ys xs' z Q s hH rx ry h q => by
  unfold uAppend at h
  split at h
  · rename_i y
    split at h
    · rename_i hl
      cases h
      cases ry with
      | @cons w _ ws' _ r rn =>
        cases rn
        exact ⟨a, vs, w, rfl, rfl, hH, by rw [Paired.length rx]; exact hl, q .non _ .non (VsRel.append rx (.cons r .nil))⟩
    · cases h
  · cases h
def uExtend (xs ys : List SV) (S : Store) : Option (SV × List SV) := match ys with
  | [y] => match lookD S y with
    | some (.lst ds) => if xs.length + ds.length ≤ sizeLine then some (.sh .non, xs ++ ds.map SV.sh) else none
    | _ => none
  | _ => none
theorem snd_extend {K : KW} : SndU K rExtend uExtend := fun F H as S a vs ws xs ys xs' z Q s hH rx ry h q => by
  unfold uExtend at h
  split at h
  · rename_i y
    split at h
    · rename_i ds hd
      split at h
      · rename_i hl
        cases h
        cases ry with
        | @cons w _ ws' _ r rn =>
          cases rn
          obtain ⟨b, zs, rfl, hb, rb⟩ := (look_ok s r hd).isLst s.ff
          exact ⟨a, b, vs, zs, rfl, rfl, hH, hb, by rw [Paired.length rx, rb.length]; exact hl, q .non _ .non (VsRel.append rx (VsRel.sh rb))⟩
      · cases h
    · cases h
  · cases h
def uPop (xs ys : List SV) (_ : Store) : Option (SV × List SV) := match ys with
  | [] => match xs[xs.length - 1]? with
    | some y => some (y, xs.dropLast)
    | none => none
  | _ => none
theorem VsRel.get {K : KW} {F : Hp} {as : AS} : ∀ {vs : List V} {xs : List SV} {i : Nat} {x : SV}, VsRel K F as vs xs → xs[i]? = some x → ∃ v, vs[i]? = some v ∧ VRel K F as v x
  | _, _, _, _, .nil, e => by simp at e
  | _, _, 0, _, .cons a r, e => by simp at e; subst e; exact ⟨_, rfl, a⟩
  | _, _, i + 1, x, .cons a r, e => by
    obtain ⟨v, h1, h2⟩ := VsRel.get (i := i) (x := x) r (by simpa using e)
    exact ⟨v, by simpa using h1, h2⟩
theorem VsRel.dropLast {K : KW} {F : Hp} {as : AS} {vs : List V} {xs : List SV} (r : VsRel K F as vs xs) : VsRel K F as vs.dropLast xs.dropLast := by
  induction r with
  | nil => exact .nil
  | cons a t ih =>
    cases t with
    | nil => exact .nil
    | cons b t' => exact .cons a ih
theorem snd_pop {K : KW} : SndU K rPop uPop := fun F H as S a vs ws xs ys xs' z Q s hH rx ry h q => by
  unfold uPop at h
  split at h
  · split at h
    · rename_i y hy
      cases h
      cases ry
      obtain ⟨v, hv, rv⟩ := rx.get hy
      exact ⟨a, vs, v, rfl, rfl, hH, by rw [Paired.length rx]; exact hv, q v _ rv rx.dropLast⟩
    · cases h
  · cases h
end
end FW

set_option Elab.async false
set_option linter.all false
set_option maxRecDepth 100000
/-! FW, part H: sets, what else is walked, chains, texts of parts. -/
namespace FW
open PySem PySem.Spec PyProof.Rows L2

section
variable {K : KW}
def dInSet (n : Bool) : D → D → Option An
  | .str k, .set xs => some (.val (.bl (n != decide (k ∈ xs))))
  | _, _ => none
theorem snd_inSet {n : Bool} : Snd2 K (FwS.rInS K.w n) (dInSet n) := fun F H x y d e an Q s rx ry hg q => by
  unfold dInSet at hg
  split at hg
  · cases hg
    obtain ⟨a, rfl, ha⟩ := ry.isSet s
    exact ⟨_, a, _, rx.str, rfl, ha, q _ (.bl _)⟩
  · cases hg
def sgn (z : Str) : Option Nat := match z.cps.toList with
  | [c] => some c
  | _ => none
theorem sgn_eq {z : Str} {c : Nat} (h : sgn z = some c) : z = ⟨#[c]⟩ := by
  unfold sgn at h
  split at h
  · rename_i c' e
    cases h
    cases z with
    | mk a =>
      have : a = #[c] := by simpa using congrArg List.toArray e
      rw [this]
  · cases h
def dInSign (n : Bool) : D → D → Option An
  | .str k, .str z => (sgn k).map fun c => .val (.bl (n != decide (c ∈ z.cps.toList)))
  | _, _ => none
theorem snd_inSign : Snd2 K (fun x y H Q => ∃ (c : Nat) (z : Str), x = .str ⟨#[c]⟩ ∧ y = .str z ∧ Q (.bl (decide (c ∈ z.cps.toList))) H) (dInSign false) := fun F H x y d e an Q s rx ry hg q => by
  unfold dInSign at hg
  split at hg
  · rename_i k z
    cases h : sgn k with
    | none => rw [h] at hg; cases hg
    | some c =>
      rw [h] at hg; cases hg
      refine ⟨c, z, by rw [rx.str, sgn_eq h], ry.str, ?_⟩
      have := q _ (.bl _)
      simpa using this
  · cases hg
theorem snd_notInSign : Snd2 K (fun x y H Q => ∃ (c : Nat) (z : Str), x = .str ⟨#[c]⟩ ∧ y = .str z ∧ Q (.bl (!decide (c ∈ z.cps.toList))) H) (dInSign true) := fun F H x y d e an Q s rx ry hg q => by
  unfold dInSign at hg
  split at hg
  · rename_i k z
    cases h : sgn k with
    | none => rw [h] at hg; cases hg
    | some c =>
      rw [h] at hg; cases hg
      refine ⟨c, z, by rw [rx.str, sgn_eq h], ry.str, ?_⟩
      have := q _ (.bl _)
      simpa using this
  · cases hg
def dInA (n : Bool) : D → D → Option An := d2 (dIn n) (d2 (dInSet n) (dInSign n))
def dSetOf : D → Option An := fun d => (lstD d).bind fun ds => (strsD ds).bind fun xs => if xs.length + 1 < scanBound then some (.set (FwS.insAll xs)) else none
theorem snd_setOf : SndN K (FwS.rSetOf K.K K.w) (on1 dSetOf) := fun F H xs ds an Q s rx hg q => by
  unfold on1 at hg
  split at hg
  · rename_i d
    obtain ⟨v, rfl, r⟩ := pair1 rx
    unfold dSetOf at hg
    cases h1 : lstD d with
    | none => rw [h1] at hg; cases hg
    | some es =>
      rw [h1] at hg
      cases h2 : strsD es with
      | none => simp [h2] at hg
      | some ns =>
        simp only [h2, Option.bind_some] at hg
        split at hg
        · rename_i hl
          cases hg
          obtain ⟨a, vs, rfl, hq, rr⟩ := r.lstD s h1
          rw [strsD_eq h2] at rr
          rw [rr.of_strs] at hq
          exact ⟨a, ns, rfl, hq, hl, q⟩
        · cases hg
  · cases hg
end
section
variable {X : Cx} {W : WX}
theorem fe_inA {a b : Expr} {fa fb : Sl → MM SV} {pos : Pos} (ha : FE X W a fa) (hb : FE X W b fb) (hm : behindInMarks .In b = false := by rfl) : FE X W (.Compare a [.In] [b] pos) (b2 false (dInA false) fa fb) := fe_cmp (op_in_seq.or (FwS.op_inS.or op_in_sign)) (Snd2.or snd_in (Snd2.or snd_inSet snd_inSign)) ha hb hm
theorem ft_inA {a b : Expr} {fa fb : Sl → MM SV} {pos : Pos} (ha : FE X W a fa) (hb : FE X W b fb) (hm : behindInMarks .In b = false := by rfl) : FT X W (.Compare a [.In] [b] pos) (sB (b2 false (dInA false) fa fb)) := ft_cmp (op_in_seq.or (FwS.op_inS.or op_in_sign)) (Snd2.or snd_in (Snd2.or snd_inSet snd_inSign)) ha hb hm
theorem fe_ninA {a b : Expr} {fa fb : Sl → MM SV} {pos : Pos} (ha : FE X W a fa) (hb : FE X W b fb) (hm : behindInMarks .NotIn b = false := by rfl) : FE X W (.Compare a [.NotIn] [b] pos) (b2 false (dInA true) fa fb) := fe_cmp (op_notIn_seq.or (FwS.op_notInS.or op_notIn_sign)) (Snd2.or snd_in (Snd2.or snd_inSet snd_notInSign)) ha hb hm
theorem ft_ninA {a b : Expr} {fa fb : Sl → MM SV} {pos : Pos} (ha : FE X W a fa) (hb : FE X W b fb) (hm : behindInMarks .NotIn b = false := by rfl) : FT X W (.Compare a [.NotIn] [b] pos) (sB (b2 false (dInA true) fa fb)) := ft_cmp (op_notIn_seq.or (FwS.op_notInS.or op_notIn_sign)) (Snd2.or snd_in (Snd2.or snd_inSet snd_notInSign)) ha hb hm

/-! ### a set of texts by a comprehension -/
noncomputable def lcS (vs : List Nat) (g : GM) (t : Sl → MM Bool) (f : Sl → MM SV) : List D → List Str → Sl → Store → Option (List Str × Store)
  | [] => fun acc _ S => some (acc, S)
  | d :: r => fun acc ss S => match g (.sh d) (wipeS ss vs) S with
    | none => none
    | some (ρ, S1) => match t ρ S1 with
      | some (.ok true, S2) => match f ρ S2 with
        | some (.ok (.sh (.str y)), S3) => if acc.length + 1 < scanBound then (match cut S S3 with
          | some S4 => lcS vs g t f r (FwS.ins acc y) ss S4
          | none => none) else none
        | _ => none
      | some (.ok false, S2) => match cut S S2 with
        | some S4 => lcS vs g t f r acc ss S4
        | none => none
      | _ => none
noncomputable def sCompS (vs : List Nat) (it : Sl → MM (List D)) (g : GM) (t : Sl → MM Bool) (f : Sl → MM SV) : Sl → MM SV := fun ss => MM.bind (it ss) fun ds S => match lcS vs g t f ds [] ss S with
  | some (zs, S1) => some (.ok (.sh (.set zs)), S1)
  | none => none
theorem tScS_ok {K : KW} {vs : List Nat} {it : Sl → MM (List D)} {g : GM} {t : Sl → MM Bool} {f : Sl → MM SV} {wi : TI}
    (si : ∀ (σ : L2.St) (ss : Sl) (F : Hp) (as : AS) (S : Store) (H : Hp) (R : It → Hp → Prop) (o : Ou (List D)) (S' : Store), SlRel K F as σ ss → SRel K F as S H → it ss S = some (o, S') → Cont K (WE W σ) F as S' o (fun ds F' as' H' => ∀ J, Yields K F' J ds → R J H') → wi σ H R)
    (σ : L2.St) (ss : Sl) (F : Hp) (as : AS) (S : Store) (H : Hp) (Q : VK) (o : Ou SV) (S' : Store) (hr : SlRel K F as σ ss) (s : SRel K F as S H) (h : sCompS vs it g t f ss S = some (o, S'))
    (cn : Cont K (WE W σ) F as S' o (fun x F' as' H' => ∀ v, VRel K F' as' v x → Q v H')) : FwS.tScS K.w wi (gOf K vs g) (ttOf K W0 t) (teOf K W0 f) vs σ H Q := by
  refine step (R := fun J H1 => ∀ D, H1 D = none → ∃ W : Nat → Nat → Hp → Prop, (∃ m, W 0 m (upd H1 D (FwS.SetSO K.w D []))) ∧ ∀ i m H, W i m H → _) (T := wi σ H) (Rl := fun F' as' J ds => Yields K F' J ds) (fun Q o S' h c => si σ ss F as S H Q o S' hr s h c) h cn ?_
  intro ds S1 F1 as1 H1 J h1 e1 s1 y c1 D hD
  cases hz : lcS vs g t f ds [] ss S1 with
  | none => rw [hz] at h1; cases h1
  | some q =>
    obtain ⟨zs, Sf⟩ := q
    rw [hz] at h1
    have gD := s1.gnone hD
    refine ⟨fun i m H => m = ds.length - i ∧ i ≤ ds.length ∧ ∃ av S2 F2, Same F1 F2 ∧ SRel K F2 (as1.hide D (FwS.SetSO K.w D av)) S2 H ∧ lcS vs g t f (ds.drop i) av ss S2 = some (zs, Sf), ⟨ds.length, by simp, Nat.zero_le _, [], S1, F1, Same.refl _, s1.hide hD, hz⟩, ?_⟩
    rintro i m H2 ⟨rfl, hi, av, S2, F2, e2, s2, h2⟩
    by_cases hlt : i < ds.length
    · have hd : ds.drop i = ds[i] :: ds.drop (i + 1) := List.drop_eq_getElem_cons hlt
      rw [hd] at h2
      unfold lcS at h2
      refine .inr ⟨y.go i H2 (e2.trans s2.ff) hlt, fun H => ds.length - (i + 1) = ds.length - (i + 1) ∧ i + 1 ≤ ds.length ∧ ∃ av S2 F2, Same F1 F2 ∧ SRel K F2 (as1.hide D (FwS.SetSO K.w D av)) S2 H ∧ lcS vs g t f (ds.drop (i + 1)) av ss S2 = some (zs, Sf), fun H' w => ⟨ds.length - (i + 1), by omega, w⟩, fun x H' hy => ?_⟩
      have go : ∀ (F3 : Hp), Ext F2 (as1.hide D (FwS.SetSO K.w D av)) F3 (as1.hide D (FwS.SetSO K.w D av)) → SRel K F3 (as1.hide D (FwS.SetSO K.w D av)) S2 H' → VRel K F3 (as1.hide D (FwS.SetSO K.w D av)) x (.sh ds[i]) → gOf K vs g x (wipe σ vs) H' fun σ2 H2 => wipe σ2 vs = wipe σ vs ∧ ttOf K W0 t σ2 H2 fun b H3 =>
          if b = true then teOf K W0 f σ2 H3 fun y H4 => ∃ (c : Str) (xs : List Str), y = .str c ∧ H4 D = some (FwS.SetSO K.w D xs) ∧ xs.length + 1 < scanBound ∧ (fun H => ds.length - (i + 1) = ds.length - (i + 1) ∧ i + 1 ≤ ds.length ∧ ∃ av S2 F2, Same F1 F2 ∧ SRel K F2 (as1.hide D (FwS.SetSO K.w D av)) S2 H ∧ lcS vs g t f (ds.drop (i + 1)) av ss S2 = some (zs, Sf)) (upd H4 D (FwS.SetSO K.w D (FwS.ins xs c)))
          else (fun H => ds.length - (i + 1) = ds.length - (i + 1) ∧ i + 1 ≤ ds.length ∧ ∃ av S2 F2, Same F1 F2 ∧ SRel K F2 (as1.hide D (FwS.SetSO K.w D av)) S2 H ∧ lcS vs g t f (ds.drop (i + 1)) av ss S2 = some (zs, Sf)) H3 := by
        intro F3 e3 s3 rx
        split at h2
        · cases h2
        · rename_i ρ S3 h3
          have rs : SlRel K F3 (as1.hide D (FwS.SetSO K.w D av)) (wipe σ vs) (wipeS ss vs) := ((((hr.mono e1).mono (⟨e2, ⟨[], (List.append_nil _).symm⟩, rfl⟩ : Ext F1 as1 F2 as1)).hide (p := D) (o := FwS.SetSO K.w D av)).mono e3).wipe vs
          refine ⟨_, _, F3, _, S2, ρ, S3, rx, rs, s3, h3, fun F4 as4 H4 σ4 e4 s4 r4 w4 => ⟨wipe_of (w4.1.trans (wipe_length σ vs)) w4.2, ?_⟩⟩
          cases ht : t ρ S3 with
          | none => simp only [ht] at h2; cases h2
          | some q =>
            obtain ⟨o4, S4⟩ := q
            simp only [ht] at h2
            refine ⟨ρ, F4, as4, S3, o4, S4, r4, s4, ht, ?_⟩
            intro F5 as5 H5 e5 s5
            cases o4 with
            | er z => cases h2
            | ok b =>
              cases b with
              | false =>
                simp only at h2
                show (if false = true then _ else _)
                rw [if_neg Bool.false_ne_true]
                cases hc : cut S2 S4 with
                | none => rw [hc] at h2; cases h2
                | some S6 =>
                  rw [hc] at h2
                  have e35 := (e4.trans e5)
                  exact ⟨rfl, hlt, av, S6, F5, (e2.trans e3.same).trans e35.same, cut_rel s3 e35 s5 hc, h2⟩
              | true =>
                simp only at h2
                show (if true = true then _ else _)
                rw [if_pos rfl]
                cases hf : f ρ S4 with
                | none => simp only [hf] at h2; cases h2
                | some q =>
                  obtain ⟨o6, S6⟩ := q
                  refine ⟨ρ, F5, as5, S4, o6, S6, r4.mono e5, s5, hf, ?_⟩
                  simp only [hf] at h2
                  intro F7 as7 H7 e7 s7
                  cases o6 with
                  | er z => cases h2
                  | ok yv =>
                    cases yv with
                    | cl k => cases h2
                    | sh yd =>
                      cases yd with
                      | str ys =>
                        simp only at h2
                        intro v rv
                        split at h2
                        · rename_i hlen
                          have e37 := (e4.trans e5).trans e7
                          cases hc : cut S2 S6 with
                          | none => rw [hc] at h2; cases h2
                          | some S8 =>
                            rw [hc] at h2
                            have s8 := cut_rel s3 e37 s7 hc
                            obtain ⟨g1, g2, g3⟩ := s8.gh D _ hide_same
                            exact ⟨ys, av, Rep.str_of rv, g1, hlen, rfl, hlt, FwS.ins av ys, S8, F7, (e2.trans e3.same).trans e37.same, s8.rehide, h2⟩
                        · cases h2
                      | _ => cases h2
      rcases y.yld i H2 x H' ds[i] (e2.trans s2.ff) hy (List.getElem?_eq_getElem hlt) with ⟨rfl, rx⟩ | ⟨T, vs', es, rfl, hT, rfl, hes, rvs⟩
      · exact go F2 (Ext.refl _ _) s2 (rx.mono e2)
      · obtain ⟨s3, x3, v3⟩ := s2.laidT hT (rvs.mono e2)
        exact go _ x3 s3 (by rw [hes]; exact v3)
    · have e : i = ds.length := by omega
      subst e
      rw [List.drop_length] at h2
      cases h2
      refine .inl ⟨y.stop H2 (e2.trans s2.ff), ?_⟩
      cases h1
      obtain ⟨s4, x4⟩ := s2.unhide gD
      exact c1 _ as1 H2 ⟨e2.trans x4, ⟨[], (List.append_nil _).symm⟩, rfl⟩ s4 (.ref D) (.set upd_same)
theorem fe_compS {elt tg iter : Expr} {ifs : List Expr} {scope : Scope} {own : List (Str × Nat)} {pos : Pos} {it : Sl → MM (List D)} {g : GM} {t : Sl → MM Bool} {f : Sl → MM SV} (hc : X.calm = true) (hN : X.N.Nodup) (hi : FI X W tg iter it) (ok : BlkOk X.N X.env.scope scope own)
    (hg : ∀ (s : Shared) (H : Hp) (C : Addr) (cl : List (Str × Addr)) (fp : List Addr), FGw (X.blk s H scope (compEnvC scope cl C X.env) fp) (own.map (·.2)) tg g) (ht : ∀ (s : Shared) (H : Hp) (C : Addr) (cl : List (Str × Addr)) (fp : List Addr), FTs (X.blk s H scope (compEnvC scope cl C X.env) fp) W0 ifs t)
    (he : ∀ (s : Shared) (H : Hp) (C : Addr) (cl : List (Str × Addr)) (fp : List Addr), FE (X.blk s H scope (compEnvC scope cl C X.env) fp) W0 elt f) (hs : ∀ x, foldedSetIterable iter X.env x = pure x := by intro _; rfl) :
    FE X W (.SetComp elt [⟨tg, iter, ifs, 0⟩] scope pos) (sCompS (own.map (·.2)) it g t f) := by
  obtain ⟨wi, pi, si⟩ := hi.ex
  exact ⟨_, FwS.pe_scS hc hN pi ok (fun s H C cl fp => (hg s H C cl fp).can) (fun s H C cl fp => (ht s H C cl fp).can) (fun s H C cl fp => (he s H C cl fp).can) hs, tScS_ok (K := X.kw) si⟩

/-! ### from the end -/
def itRev (f : Sl → MM SV) : Sl → MM (List D) := fun ss => MM.bind (f ss) fun x => MM.bind (frz x) fun d S => match d with
  | .lst ds => some (.ok ds.reverse, S)
  | _ => none
theorem fi_rev {tg e : Expr} {f : Sl → MM SV} {p pos : Pos} (hg : Gl X "reversed") (hm : X.mg "reversed" = none) (h : FE X W e f) (hs : starEach [e] X.env = (false, eval e X.env) :: starEach [] X.env := by rfl) : FI X W tg (.Call (.Name "reversed" p) [e] [] pos) (itRev f) := by
  obtain ⟨te, pe, snd⟩ := h.ex
  refine ⟨_, RT.pi_revA hg hm pe hs, fun σ ss F as S H R o S' hr s h c => ?_⟩
  refine step (T := te σ H) (Rl := VR X) (fun Q o S' h c => snd σ ss F as S H Q o S' hr s h c) h c ?_
  intro x S1 F1 as1 H1 v h1 e1 s1 rv c1
  rcases bindE h1 with ⟨d, S2, h2, h3⟩ | ⟨d, S2, h2, h3⟩
  · obtain ⟨d', F2, ed, x2, s2, rd⟩ := frz_ok s1 rv h2
    cases ed
    split at h3
    · rename_i ds
      cases h3
      cases rd with
      | @lst a vs ds hh rr =>
        have q := c1 F2 as1 H1 x2 s2 (Itv X.K a vs.length) ?_
        · exact ⟨a, vs, rfl, .inl ⟨SqL.of (s2.ff _ _ hh), q⟩⟩
        · have hl := rr.length
          refine ⟨fun i H s h => ?_, fun H s => by show vs.length ≤ ds.reverse.length; rw [List.length_reverse, hl]; exact Nat.le_refl _, fun i H x H' d s h q => ?_⟩
          · have hi : i < vs.length := by rw [hl]; simpa using h
            exact ⟨hi, vs, vs[vs.length - 1 - i], SqL.of (s _ _ hh), List.getElem?_eq_getElem (by omega)⟩
          · have hi : i < ds.length := by
              have := (List.getElem?_eq_some_iff.mp q).1
              simpa using this
            rw [List.getElem?_reverse hi] at q
            obtain ⟨v, hv, rv⟩ := rr.get q
            have e := h.2 vs (SqL.of (s _ _ hh))
            rw [hl, hv] at e; cases e
            exact .inl ⟨h.1, rv⟩
    · cases h3
  · obtain ⟨d', F2, ed, x2, s2, rd⟩ := frz_ok s1 rv h2
    cases ed

/-! ### a op b op c -/
def sChain (g g' : D → D → Option An) (fa fb fc : Sl → MM SV) : Sl → MM SV := fun ss => MM.bind (fa ss) fun x => MM.bind (fb ss) fun y => MM.bind (MM.bind (s2 false g x y) asB) fun b => if b = true then MM.bind (fc ss) fun z => s2 false g' y z else ret (.sh (.bl false))
theorem tChain_ok {ta tb tc : TE} {r r' : R2} {g g' : D → D → Option An} {fa fb fc : Sl → MM SV} (hs : Snd2 X.kw r g) (hs' : Snd2 X.kw r' g')
    (sa : ∀ (σ : L2.St) (ss : Sl) (F : Hp) (as : AS) (S : Store) (H : Hp) (Q : VK) (o : Ou SV) (S' : Store), SlRel X.kw F as σ ss → SRel X.kw F as S H → fa ss S = some (o, S') → Cont X.kw (WE W σ) F as S' o (fun x F' as' H' => ∀ v, VRel X.kw F' as' v x → Q v H') → ta σ H Q)
    (sb : ∀ (σ : L2.St) (ss : Sl) (F : Hp) (as : AS) (S : Store) (H : Hp) (Q : VK) (o : Ou SV) (S' : Store), SlRel X.kw F as σ ss → SRel X.kw F as S H → fb ss S = some (o, S') → Cont X.kw (WE W σ) F as S' o (fun x F' as' H' => ∀ v, VRel X.kw F' as' v x → Q v H') → tb σ H Q)
    (sc : ∀ (σ : L2.St) (ss : Sl) (F : Hp) (as : AS) (S : Store) (H : Hp) (Q : VK) (o : Ou SV) (S' : Store), SlRel X.kw F as σ ss → SRel X.kw F as S H → fc ss S = some (o, S') → Cont X.kw (WE W σ) F as S' o (fun x F' as' H' => ∀ v, VRel X.kw F' as' v x → Q v H') → tc σ H Q)
    (σ : L2.St) (ss : Sl) (F : Hp) (as : AS) (S : Store) (H : Hp) (Q : VK) (o : Ou SV) (S' : Store) (hr : SlRel X.kw F as σ ss) (s : SRel X.kw F as S H) (h : sChain g g' fa fb fc ss S = some (o, S'))
    (cn : Cont X.kw (WE W σ) F as S' o (fun x F' as' H' => ∀ v, VRel X.kw F' as' v x → Q v H')) : tChain r r' ta tb tc σ H Q := by
  refine step (T := ta σ H) (Rl := VR X) (fun Q o S' h c => sa σ ss F as S H Q o S' hr s h c) h cn ?_
  intro x S1 F1 as1 H1 v h1 e1 s1 rv c1
  refine step (T := tb σ H1) (Rl := VR X) (fun Q o S' h c => sb σ ss F1 as1 S1 H1 Q o S' (hr.mono e1) s1 h c) h1 c1 ?_
  intro y S2 F2 as2 H2 w h2 e2 s2' rw' c2
  refine stepT (T := fun R => r v w H2 (fun z H3 => ∃ k, z = .bl k ∧ R k H3)) (R := fun k H3 => if k = true then tc σ H3 fun w' H4 => r' w w' H4 Q else Q (.bl false) H3) (fun Q' o S' h c => ?_) h2 c2 ?_
  · refine step (T := fun R => r v w H2 R) (Rl := VR X) (fun Q'' o S' h c => s2_ok hs s2' (rv.mono e2) rw' h c) h c ?_
    intro z S3 F3 as3 H3 u h3 e3 s3 ru c3
    exact asB_ok s3 ru h3 c3
  · intro k S3 F3 as3 H3 h3 e3 s3 c3
    cases k with
    | false => obtain ⟨rfl, rfl⟩ := ret_inv h3; exact c3 F3 as3 H3 (Ext.refl _ _) s3 _ (.bl false)
    | true =>
      refine step (T := tc σ H3) (Rl := VR X) (fun Q o S' h c => sc σ ss F3 as3 S3 H3 Q o S' (((hr.mono e1).mono e2).mono e3) s3 h c) h3 c3 ?_
      intro z S4 F4 as4 H4 u h4 e4 s4 ru c4
      exact s2_ok hs' s4 ((rw'.mono e3).mono e4) ru h4 c4
theorem fe_chain {op op' : CmpOp} {a b c : Expr} {r r' : R2} {g g' : D → D → Option An} {fa fb fc : Sl → MM SV} {pos : Pos} (ho : OpR X (compareOp op) r) (hs : Snd2 X.kw r g) (ho' : OpR X (compareOp op') r') (hs' : Snd2 X.kw r' g') (ha : FE X W a fa) (hb : FE X W b fb) (hc : FE X W c fc)
    (hm : lastMarks [op, op'] [b, c] = false := by with_unfolding_all rfl) : FE X W (.Compare a [op, op'] [b, c] pos) (sChain g g' fa fb fc) := by
  obtain ⟨ta, pa, sa⟩ := ha.ex
  obtain ⟨tb, pb, sb⟩ := hb.ex
  obtain ⟨tc, pc, sc⟩ := hc.ex
  exact ⟨_, pe_chain ho ho' pa pb pc hm, tChain_ok hs hs' sa sb sc⟩
theorem ft_chain {op op' : CmpOp} {a b c : Expr} {r r' : R2} {g g' : D → D → Option An} {fa fb fc : Sl → MM SV} {pos : Pos} (ho : OpR X (compareOp op) r) (hs : Snd2 X.kw r g) (ho' : OpR X (compareOp op') r') (hs' : Snd2 X.kw r' g') (ha : FE X W a fa) (hb : FE X W b fb) (hc : FE X W c fc)
    (hm : lastMarks [op, op'] [b, c] = false := by with_unfolding_all rfl) : FT X W (.Compare a [op, op'] [b, c] pos) (sB (sChain g g' fa fb fc)) := by
  obtain ⟨ta, pa, sa⟩ := ha.ex
  obtain ⟨tb, pb, sb⟩ := hb.ex
  obtain ⟨tc, pc, sc⟩ := hc.ex
  refine ⟨_, pt_chain ho ho' pa pb pc hm, fun σ ss F as S H Q o S' hr s h c => ?_⟩
  refine step (T := tChain r r' ta tb tc σ H) (Rl := VR X) (fun Q o S' h c => tChain_ok hs hs' sa sb sc σ ss F as S H Q o S' hr s h c) h c ?_
  intro x S1 F1 as1 H1 v h1 e1 s1 rv c1
  exact asB_ok s1 rv h1 c1
/-- a <= b <= c -/
theorem fe_leLe {a b c : Expr} {fa fb fc : Sl → MM SV} {pos : Pos} (ha : FE X W a fa) (hb : FE X W b fb) (hc : FE X W c fc) (hm : lastMarks [.LtE, .LtE] [b, c] = false := by with_unfolding_all rfl) : FE X W (.Compare a [.LtE, .LtE] [b, c] pos) (sChain dLe dLe fa fb fc) :=
  fe_chain (op_le.or op_le_str) (Snd2.or snd_B snd_dS) (op_le.or op_le_str) (Snd2.or snd_B snd_dS) ha hb hc hm
theorem ft_leLe {a b c : Expr} {fa fb fc : Sl → MM SV} {pos : Pos} (ha : FE X W a fa) (hb : FE X W b fb) (hc : FE X W c fc) (hm : lastMarks [.LtE, .LtE] [b, c] = false := by with_unfolding_all rfl) : FT X W (.Compare a [.LtE, .LtE] [b, c] pos) (sB (sChain dLe dLe fa fb fc)) :=
  ft_chain (op_le.or op_le_str) (Snd2.or snd_B snd_dS) (op_le.or op_le_str) (Snd2.or snd_B snd_dS) ha hb hc hm

/-! ### f'..' -/
def runJ : List (Sl → MM SV) → Str → Sl → MM Str
  | [], acc, _ => ret acc
  | f :: r, acc, ss => MM.bind (f ss) fun x S => match x with
    | .sh (.str y) => if (acc ++ y).length ≤ sizeLine then runJ r (acc ++ y) ss S else none
    | _ => none
structure FJ (X : Cx) (W : WX) (es : List Expr) (fs : List (Sl → MM SV)) : Prop where
  ex : ∃ ts, PJ X es ts ∧ ∀ (acc : Str) (σ : L2.St) (ss : Sl) (F : Hp) (as : AS) (S : Store) (H : Hp) (Q : Str → Hp → Prop) (o : Ou Str) (S' : Store), SlRel X.kw F as σ ss → SRel X.kw F as S H → runJ fs acc ss S = some (o, S') →
    Cont X.kw (WE W σ) F as S' o (fun x _ _ H' => Q x H') → tJs ts acc σ H Q
def sFmt (f : Sl → MM SV) : Sl → MM SV := fun ss => MM.bind (f ss) fun x S => match x with
  | .sh (.str y) => if y.length ≤ sizeLine then some (.ok (.sh (.str y)), S) else none
  | .sh (.int i) => if i.natAbs.log2 < 1920 then some (.ok (.sh (.str (toString i))), S) else none
  | _ => none
theorem fe_fmt {e : Expr} {f : Sl → MM SV} {pos : Pos} (h : FE X W e f) : FE X W (.FormattedValue e (-1) none pos) (sFmt f) := by
  obtain ⟨te, p, snd⟩ := h.ex
  refine ⟨_, pe_fmt p, fun σ ss F as S H Q o S' hr s h c => ?_⟩
  refine step (T := te σ H) (Rl := VR X) (fun Q o S' h c => snd σ ss F as S H Q o S' hr s h c) h c ?_
  intro x S1 F1 as1 H1 v h1 e1 s1 rv c1
  split at h1
  · split at h1
    · rename_i hl
      cases h1
      exact .inl ⟨_, Rep.str_of rv, hl, c1 F1 as1 H1 (Ext.refl _ _) s1 _ (.str _)⟩
    · cases h1
  · split at h1
    · rename_i hl
      cases h1
      exact .inr ⟨_, Rep.int_of rv, hl, c1 F1 as1 H1 (Ext.refl _ _) s1 _ (.str _)⟩
    · cases h1
  · cases h1
theorem fj_nil : FJ X W [] [] := ⟨[], .nil, fun acc σ ss F as S H Q o S' hr s h c => by cases h; exact c F as H (Ext.refl _ _) s⟩
theorem fj_cons {e : Expr} {es : List Expr} {f : Sl → MM SV} {fs : List (Sl → MM SV)} (h : FE X W e f) (r : FJ X W es fs) : FJ X W (e :: es) (f :: fs) := by
  obtain ⟨te, p, snd⟩ := h.ex
  obtain ⟨ts, ps, snds⟩ := r.ex
  refine ⟨te :: ts, .cons p ps, fun acc σ ss F as S H Q o S' hr s h c => ?_⟩
  have h' : MM.bind (f ss) (fun x S => match x with
    | .sh (.str y) => if (acc ++ y).length ≤ sizeLine then runJ fs (acc ++ y) ss S else none
    | _ => none) S = some (o, S') := h
  refine step (T := te σ H) (Rl := VR X) (fun Q o S' h c => snd σ ss F as S H Q o S' hr s h c) h' c ?_
  intro x S1 F1 as1 H1 v h1 e1 s1 rv c1
  split at h1
  · rename_i y
    split at h1
    · rename_i hl
      exact ⟨y, Rep.str_of rv, hl, snds _ σ ss F1 as1 S1 H1 Q o S' (hr.mono e1) s1 h1 c1⟩
    · cases h1
  · cases h1
def sJoined (fs : List (Sl → MM SV)) : Sl → MM SV := fun ss => MM.bind (runJ fs Str.empty ss) fun y => ret (.sh (.str y))
theorem fe_joined {v1 v2 : Expr} {rest : List Expr} {fs : List (Sl → MM SV)} {pos : Pos} (h : FJ X W (v1 :: v2 :: rest) fs) : FE X W (.JoinedStr (v1 :: v2 :: rest) pos) (sJoined fs) := by
  obtain ⟨ts, ps, snds⟩ := h.ex
  refine ⟨_, pe_joined ps, fun σ ss F as S H Q o S' hr s h c => ?_⟩
  rcases bindE h with ⟨y, S1, h1, h2⟩ | ⟨y, S1, h1, h2⟩
  · obtain ⟨rfl, rfl⟩ := ret_inv h2
    exact snds _ σ ss F as S H _ _ _ hr s h1 fun F1 as1 H1 e1 s1 => c F1 as1 H1 e1 s1 _ (.str _)
  · cases h2
    exact snds _ σ ss F as S H _ _ _ hr s h1 fun F1 as1 H1 e1 s1 => c F1 as1 H1 e1 s1
end
end FW

set_option Elab.async false
set_option linter.all false
set_option maxRecDepth 100000
set_option maxHeartbeats 1000000
/-! FW, part R: own ==, !=, str, len; sep.join(reversed(xs)); list(text); calls by names alone. -/
namespace FwR
open PySem PySem.Spec PyProof.Rows L2

/-! ### what an own class answers -/
section
variable {prog : Program} {w : World} {A : Around} {E : Value → Shared → Prop} {s : Shared} {K : PySem.W.Frag} {x C f L : Addr} {ox : Obj} {od : Option Obj} {b tb : Value} {h₀ : Heap} {m : Str → Option Value}
open PySem.W in
theorem ne_special {args : List Value} {Q : Option Value → Shared → Prop} (X : K.In s.heap) (I : InstAt s.heap x ox C od) (hs : findIn K (.ref C) "__ne__" = some (some (.builtin "object.__ne__")))
    (h : wpAny (model prog w) A (call (.builtin "object.__ne__") (.ref x :: args)) (fun v => Q (some v)) E s) : wpAny (model prog w) A (callSpecialIfBound? (.ref x) "__ne__" args) Q E s := by
  simp only [callSpecialIfBound?, bindSpecialIfBound?]
  refine wpAny_holding (wpAny_bind (wpAny_bind (wpAny_bind (I.type.here ((looks_findIn X hs).here ?_)))))
  simp only [F.cmp_object.ne.bind]
  refine wpAny_bind (wpAny_askSetting (wpAny_ite ?_))
  have fin : wpAny (model prog w) A (call (.builtin "object.__ne__") ([.ref x] ++ args) >>= fun v => pure (some v)) Q E s := wpAny_bind (wpAny_mono h (fun v s' h' => wpAny_pure h') fun _ _ h' => h')
  split
  · exact wpAny_bind (wpAny_pure (wpAny_pure (by exact fin)))
  · exact wpAny_tryCatch (wpAny_bind (wpAny_pure (wpAny_pure (by exact fin))))
def Truth (neg : Bool) (Q : Value → Shared → Prop) (v : Value) (s' : Shared) : Prop := ∃ r, v = .bool r ∧ Q (.bool (neg != r)) s'
open PySem.W Builtin in
theorem ne_call {Q : Value → Shared → Prop} (hu : A.in1.units < cLine) (X : K.In s.heap) (I : InstAt s.heap x ox C od) (hm : mroIn K C (.type "object") = some true) (he : findIn K (.ref C) "__eq__" = some (some (.ref f))) (hf : isFn K (.ref f) = true)
    (h : wpAny (model prog w) A.in1 (call (.ref f) [.ref x, b]) (Truth true Q) E s) : wpAny (model prog w) A (call (.builtin "object.__ne__") [.ref x, b]) Q E s := by
  refine wpAny_call (codeAny_call_builtin F.cmp_object.ne.plain F.cmpEntry_ne (check_slot (i := "object.__ne__") (owner := "object") (n := "__ne__") F.cmpKind_ne F.cmpSplit_ne (I.type.andThen (looks_mroIn X hm)) (F.cmpArgs_ne _ _) ?_))
  unfold Builtin.«object.__ne__»
  refine wpAny_bind (m := slotArgs "__ne__" 1 _) (wpAny_pure ?_)
  refine wpAny_bind (m := cRoomFor _ _) (wpAny_cRoomFor hu ?_)
  refine wpAny_bind (m := callSpecialIfBound? (.ref x) (Str.ofString "__eq__") _) (ifBound_K X I he hf (wpAny_mono h (fun r s' hq => ?_) fun _ _ y => y))
  obtain ⟨b, rfl, hq⟩ := hq
  refine wpAny_bind (wpAny_truthy_bool ?_)
  cases b <;> exact wpAny_pure hq
open PySem.W in
theorem ne_run {Q : Value → Shared → Prop} (hu : A.units < cLine) (hu1 : A.in1.units < cLine) (X : K.In s.heap) (I : InstAt s.heap x ox C od) (hb : Looks (model prog w) s.heap (typeOf b) tb) (hn : notFirst K C tb = true)
    (hm : mroIn K C (.type "object") = some true) (hne : findIn K (.ref C) "__ne__" = some (some (.builtin "object.__ne__"))) (he : findIn K (.ref C) "__eq__" = some (some (.ref f))) (hf : isFn K (.ref f) = true)
    (h : wpAny (model prog w) A.in1 (call (.ref f) [.ref x, b]) (Truth true Q) E s) : wpAny (model prog w) A (richCompare .NotEq (.ref x) b) Q E s := by
  have one : wpAny (model prog w) A (tryCompare (.ref x) (cmpInfo .NotEq).2.1 b) (fun r s' => ∃ v, r = some v ∧ Q v s') E s := by
    unfold tryCompare
    refine wpAny_bind (ne_special X I hne (ne_call hu1 X I hm he hf (wpAny_mono h (fun v s' hv => ?_) fun _ _ e => e)))
    obtain ⟨r, rfl, hv⟩ := hv
    exact ⟨r, rfl, wpAny_pure ⟨_, rfl, hv⟩⟩
  unfold richCompare
  simp only [oneThing_ref]
  refine wpAny_holding (wpAny_bind (wpAny_cRoomFor hu ?_))
  refine wpAny_bind (I.type.here (wpAny_bind (hb.here ?_)))
  split
  · rename_i q
    have e : subIn K tb (.ref C) = some false := by
      rcases Bool.or_eq_true_iff.mp hn with e | e
      · rw [beq_iff_eq.mp e] at q; simp at q
      · exact beq_iff_eq.mp e
    refine wpAny_bind ((looks_subIn X e).here ?_)
    simp only [Bool.false_eq_true, if_false]
    refine wpAny_bind (wpAny_mono one (fun r s' z => ?_) fun _ _ e => e)
    obtain ⟨v, rfl, hq⟩ := z
    exact wpAny_pure hq
  · refine wpAny_bind (wpAny_pure ?_)
    simp only [Bool.false_eq_true, if_false]
    refine wpAny_bind (wpAny_mono one (fun r s' z => ?_) fun _ _ e => e)
    obtain ⟨v, rfl, hq⟩ := z
    exact wpAny_pure hq
open PySem.W in
theorem len_run {Q : Value → Shared → Prop} (X : K.In s.heap) (I : InstAt s.heap x ox C od) (hl : findIn K (.ref C) "__len__" = some (some (.ref f))) (hf : isFn K (.ref f) = true)
    (h : wpAny (model prog w) A.in1 (call (.ref f) [.ref x]) (fun v s' => ∃ n t, v = Value.int n t ∧ 0 ≤ n ∧ n < 2 ^ 63 ∧ ∀ tk, Q (.int n tk) { s' with toks := s'.toks + 1 }) E s) : wpAny (model prog w) A (call (.builtin "len") [.ref x]) Q E s := by
  refine Calls.call_function_entry kind_len plain_len entry_len (args_len1 _) ?_
  unfold Builtin.«len»
  refine wpAny_bind (m := oneArg "len" _) (wpAny_pure ?_)
  refine wpAny_bind (m := callSpecial? (.ref x) (PySem.Str.ofString "__len__")) (special_fn X I hl (beq_iff_eq.mp hf) (wpAny_mono h (fun r s' hq => ?_) fun _ _ y => y))
  obtain ⟨n, t, rfl, h0, h1, q⟩ := hq
  refine wpAny_bind (wpAny_holding (wpAny_pure ?_))
  refine wpAny_bind (wpAny_letGo ?_)
  show wpAny _ _ (if n < 0 then _ else _) _ _ _
  rw [if_neg (by omega)]
  show wpAny _ _ (if n ≥ 2 ^ 63 then _ else _) _ _ _
  rw [if_neg (by omega)]
  exact wpAny_bind (wpAny_mkInt (wpAny_pure ⟨_, rfl, q _⟩))
end

/-! ### in the hand layer's words -/
section
variable {X : Cx} {CX : CXT} {k : Nat} {f C : Addr} {fd : FuncData} {ps : List Str} {sp : Sp} {E : L2.St → XK} {pins : List (Addr × Obj)} {σ : L2.St} {H : Hp} {s : Shared}
/-- the callee runs, called from within a built-in -/
theorem run_at {A : Around} {Q : VK} {us : List Value} {vs : List V} (F : FnOk X.prog X.w X.K X.mg X.base CX k f fd ps sp) (hr : Room k A) (hA : A.frames = X.A.frames) (hb : Binds X.K fd ps []) (hx : PassesAt CX X σ (E σ))
    (I : Inv X pins σ H s) (r : Vals vs us) (h : sp vs H Q (E σ)) : wpAny (model X.prog X.w) A (call (.ref f) us) (EP X pins σ Q) X.xe s := by
  have hl : us.length = ps.length := by rw [← r.length]; exact F.len _ _ _ _ h
  have b := hb s us I.kIn (by rw [List.append_nil]; exact hl)
  rw [List.append_nil] at b
  have e0 : Env0 X.prog X.w X.K X.mg X.base A X.stack s H := by
    have e := I.env0
    exact ⟨by rw [hA]; exact e.frames, e.mod, e.bs, e.bsz, e.funs, e.frf, e.hok, e.bare⟩
  refine wpAny_call (codeAny_mono (F.run A X.stack s H ⟨us, []⟩ us vs Q (E σ) hr e0 b r h) fun r s' hq => ?_)
  cases r with
  | error e => exact hx pins H s e s' I hq
  | ok fl =>
    cases fl with
    | ret u => exact I.after hq
    | next => exact False.elim hq
    | brk => exact False.elim hq
    | cont => exact False.elim hq
/-- an own class and its answers -/
structure OwnC (K : PySem.W.Frag) (C fe fs fl : Addr) : Prop where
  cl : Cls K C
  mro : PySem.W.mroIn K C (.type "object") = some true
  eq : PySem.W.findIn K (.ref C) "__eq__" = some (some (.ref fe))
  ne : PySem.W.findIn K (.ref C) "__ne__" = some (some (.builtin "object.__ne__"))
  str : PySem.W.findIn K (.ref C) "__str__" = some (some (.ref fs))
  len : PySem.W.findIn K (.ref C) "__len__" = some (some (.ref fl))
  feq : PySem.W.isFn K (.ref fe) = true
  fst : PySem.W.isFn K (.ref fs) = true
  fln : PySem.W.isFn K (.ref fl) = true
  ha : PySem.W.findIn K (.ref C) "__class__" = some (some (.builtin "object.__class__"))
  hn : PySem.W.specialIn K (.builtin "object.__class__") "__get__" = some (some (.builtin "getset_descriptor.__get__"))
  htk : PySem.W.takesIn K (.builtin "object.__class__") = some true
  k1 : PySem.W.kitOne K (.ref C) (.ref C) = some true
  k0 : ∀ n ∈ (["NoneType", "bool", "int", "str", "list", "tuple"] : List String), PySem.W.kitOne K (.type n) (.ref C) = some false
  kb : ∀ n ∈ (["bool", "int", "str", "list", "tuple"] : List String), PySem.W.kitOne K (.ref C) (.type n) = some false
  nf : ∀ n ∈ (["NoneType", "bool", "int", "str", "list", "tuple"] : List String), PySem.W.notFirst K C (.type n) = true
theorem notFirst_self (K : PySem.W.Frag) (C : Addr) : PySem.W.notFirst K C (.ref C) = true := by unfold PySem.W.notFirst; simp
theorem OwnC.ty {K : PySem.W.Frag} {C fe fs fl a dx : Addr} {flds : List (Str × V)} {H : Hp} (T : OwnC K C fe fs fl) (h : H a = some (.ins C dx flds)) : TyX K H (.ref a) (.ref C) := .base (.ins h T.cl T.ha T.hn T.htk T.mro)
/-- own == (neg false), own != (neg true), the left side an instance -/
def rOwn (K : PySem.W.Frag) (C : Addr) (sp : Sp) (E : XK) (neg : Bool) : R2 := fun x y H Q => ∃ a dx flds t, x = .ref a ∧ H a = some (.ins C dx flds) ∧ TyX K H y t ∧ PySem.W.notFirst K C t = true ∧ sp [.ref a, y] H (fun v H' => ∃ b, v = .bl b ∧ Q (.bl (neg != b)) H') E
theorem in1_frames (A : Around) : A.in1.frames = A.frames := rfl
theorem op_eqOwn {fe fs fl : Addr} {E : XK} (T : OwnC X.K C fe fs fl) (F : FnOk X.prog X.w X.K X.mg X.base CX k fe fd ps sp) (hr : Room (k + 2) X.A) (hb : Binds X.K fd ps []) (hx : Passes CX X E) : OpR X (compareOp .Eq) (rOwn X.K C sp E false) := by
  intro pins s σ H x y v u Q I rx ry h
  obtain ⟨a, dx, flds, t, rfl, ha, ty, hn, h⟩ := h
  cases (show v = Value.ref a from rx)
  show wpAny (model X.prog X.w) X.A (richCompare .Eq (.ref a) u) (EP X pins σ Q) X.xe s
  obtain ⟨P, Z, p, _⟩ := kit_of I ry ty
  obtain ⟨mA, J, _⟩ := ins_get I.hok ha
  obtain ⟨od, J, _⟩ := J.look
  obtain ⟨m, hF⟩ := I.fr
  refine PySem.W.cmp_K (op := .Eq) (tb := t) hr.units0 hF I.ok.mod.kin J (Z.ty _ _ I.kIn p) hn T.eq T.feq ?_
  refine wpAny_mono (run_at (E := fun _ => E) F (hr.mono (by omega)) rfl hb (fun pins H s e s' I c => hx pins σ H s e s' I c) I (show Vals [V.ref a, y] [Value.ref a, u] from .cons rfl (.cons ry .nil)) h) (fun r s' q => ?_) fun _ _ z => z
  obtain ⟨z, H', I', rz, b, ez, q⟩ := q
  subst ez
  cases rz
  exact ⟨.bl b, H', I', rfl, by simpa using q⟩
theorem op_neOwn {fe fs fl : Addr} {E : XK} (T : OwnC X.K C fe fs fl) (F : FnOk X.prog X.w X.K X.mg X.base CX k fe fd ps sp) (hr : Room (k + 2) X.A) (hb : Binds X.K fd ps []) (hx : Passes CX X E) : OpR X (compareOp .NotEq) (rOwn X.K C sp E true) := by
  intro pins s σ H x y v u Q I rx ry h
  obtain ⟨a, dx, flds, t, rfl, ha, ty, hn, h⟩ := h
  cases (show v = Value.ref a from rx)
  show wpAny (model X.prog X.w) X.A (richCompare .NotEq (.ref a) u) (EP X pins σ Q) X.xe s
  obtain ⟨P, Z, p, _⟩ := kit_of I ry ty
  obtain ⟨mA, J, _⟩ := ins_get I.hok ha
  obtain ⟨od, J, _⟩ := J.look
  have hr1 : Room (k + 1) X.A.in1 := hr.in1
  refine ne_run hr.units0 hr1.units0 I.kIn J (Z.ty _ _ I.kIn p) hn T.mro T.ne T.eq T.feq ?_
  refine wpAny_mono (run_at (E := fun _ => E) F (hr1.mono (by omega)) rfl hb (fun pins H s e s' I c => hx pins σ H s e s' I c) I (show Vals [V.ref a, y] [Value.ref a, u] from .cons rfl (.cons ry .nil)) h) (fun r s' q => ?_) fun _ _ z => z
  obtain ⟨z, H', I', rz, b, ez, q⟩ := q
  subst ez
  cases rz
  exact ⟨b, rfl, .bl _, H', I', rfl, q⟩
def rStrOwn (C : Addr) (sp : Sp) (E : XK) : List V → Hp → VK → Prop := fun xs H Q => ∃ a dx flds, xs = [.ref a] ∧ H a = some (.ins C dx flds) ∧ sp [.ref a] H (fun v H' => ∃ z, v = .str z ∧ Q (.str z) H') E
theorem call_strOwn {fe fs fl : Addr} {E : XK} (T : OwnC X.K C fe fs fl) (F : FnOk X.prog X.w X.K X.mg X.base CX k fs fd ps sp) (hr : Room (k + 2) X.A) (hb : Binds X.K fd ps []) (hx : Passes CX X E) : CallR X (.type "str") (rStrOwn C sp E) := by
  intro pins s σ H xs us Q I r h
  obtain ⟨a, dx, flds, rfl, ha, h⟩ := h
  rw [Vals.ref1 r]
  obtain ⟨mA, J, _⟩ := ins_get I.hok ha
  obtain ⟨od, J, _⟩ := J.look
  have hr2 : Room k X.A.in1.in1 := (hr.in1 : Room (k + 1) X.A.in1).in1
  refine PySem.W.kso_call hr2.units0 I.kIn J T.str T.fst ?_
  refine wpAny_mono (run_at (E := fun _ => E) F hr2 rfl hb (fun pins H s e s' I c => hx pins σ H s e s' I c) I (show Vals [V.ref a] [Value.ref a] from .cons rfl .nil) h) (fun r s' q => ?_) fun _ _ z => z
  obtain ⟨z, H', I', rz, y, ez, q⟩ := q
  subst ez
  obtain ⟨t, rfl⟩ := rz
  exact ⟨.str y, H', I', ⟨t, rfl⟩, q⟩
def rLenOwn (C : Addr) (sp : Sp) (E : XK) : List V → Hp → VK → Prop := fun xs H Q => ∃ a dx flds, xs = [.ref a] ∧ H a = some (.ins C dx flds) ∧ sp [.ref a] H (fun v H' => ∃ n, v = .int n ∧ 0 ≤ n ∧ n < 2 ^ 63 ∧ Q (.int n) H') E
theorem call_lenOwn {fe fs fl : Addr} {E : XK} (T : OwnC X.K C fe fs fl) (F : FnOk X.prog X.w X.K X.mg X.base CX k fl fd ps sp) (hr : Room (k + 2) X.A) (hb : Binds X.K fd ps []) (hx : Passes CX X E) : CallR X (.builtin "len") (rLenOwn C sp E) := by
  intro pins s σ H xs us Q I r h
  obtain ⟨a, dx, flds, rfl, ha, h⟩ := h
  rw [Vals.ref1 r]
  obtain ⟨mA, J, _⟩ := ins_get I.hok ha
  obtain ⟨od, J, _⟩ := J.look
  have hr1 : Room (k + 1) X.A.in1 := hr.in1
  refine len_run I.kIn J T.len T.fln ?_
  refine wpAny_mono (run_at (E := fun _ => E) F (hr1.mono (by omega)) rfl hb (fun pins H s e s' I c => hx pins σ H s e s' I c) I (show Vals [V.ref a] [Value.ref a] from .cons rfl .nil) h) (fun r s' q => ?_) fun _ _ z => z
  obtain ⟨z, H', I', rz, y, ez, h0, h1, q⟩ := q
  subst ez
  obtain ⟨t, rfl⟩ := rz
  exact ⟨y, t, rfl, h0, h1, fun tk => ⟨.int y, H', I'.tok _, ⟨_, rfl⟩, q⟩⟩
/-! ### f(k = v, ..), nothing by position -/
variable {ks : List Str} {g : List Value → List Value → List Value} {gV : List V → List V → List V} {x : Str} {p pos : Pos} {kws : List Keyword} {tk : TA}
def tCallK0 (sp : Sp) (gV : List V → List V → List V) (E : L2.St → XK) (tk : TA) : TE := fun σ H Q => tk σ H fun zs H2 => sp (gV [] zs) H2 Q (E σ)
theorem pe_callK0 (F : FnOk X.prog X.w X.K X.mg X.base CX k f fd ps sp) (hr : Room k X.A) (hg : Gl X x) (hm : X.mg x = some (.ref f)) (hk : PySem.W.keepIn X.K (.ref f) = true) (hb : KBinds X.K fd ps ks g gV) (hx : ∀ σ, PassesAt CX X σ (E σ))
    (hkw : PK X kws tk) (hall : (backToKw pos (keywordEach kws X.env)).all (·.1.isSome) = true := by rfl) (hks : (backToKw pos (keywordEach kws X.env)).filterMap (·.1) = ks := by rfl)
    (hdb : (x == ("__debug__" : Str)) = false := by decide) (hpl : ((backTo pos (starEach [] X.env)).any (·.1) || (backToKw pos (keywordEach kws X.env)).any (·.1.isNone)) = false := by rfl) : PE X (.Call (.Name x p) [] kws pos) (tCallK0 sp gV E tk) := by
  refine ⟨fun pins s σ H Q I h => ?_⟩
  refine wpAny_Call_Name_kw (ld_glob I hg hm ?_ hdb)
  refine PySem.W.callWith_KW0 (h₀ := X.base) I.ok.mod.kin hk hall (thn (hkw.run pos pins s σ H _ I h) fun ws s2 ⟨zs, H2, I2, rz, q2⟩ => ⟨I2.kIn, ?_⟩) hpl
  rw [hks]
  have r2 := hb.rel (vs := []) (us := []) .nil rz
  have hl : (g [] ws).length = ps.length := by rw [← r2.length]; exact F.len _ _ _ _ q2
  refine wpAny_call (codeAny_mono (F.run X.A X.stack s2 H2 ⟨[], ks.zip ws⟩ (g [] ws) (gV [] zs) Q (E σ) hr I2.env0 (hb.to s2 [] ws I2.kIn hl) r2 q2) fun r s' hq => ?_)
  cases r with
  | error e => exact hx σ pins H2 s2 e s' I2 hq
  | ok fl =>
    cases fl with
    | ret u => exact I2.after hq
    | next => exact False.elim hq
    | brk => exact False.elim hq
    | cont => exact False.elim hq
/-! ### list(text) -/
theorem call_listText (hc : X.calm = true) : CallR X (.type "list") (fun xs H Q => ∃ z, xs = [.str z] ∧ z.length ≤ sizeLine ∧ ∀ l, H l = none → Q (.ref l) (upd H l (.lst (z.cps.toList.map fun c => V.str ⟨#[c]⟩)))) := by
  intro pins s σ H xs us Q I r h
  obtain ⟨z, rfl, hz, q⟩ := h
  obtain ⟨u, rfl, t, rfl⟩ := vals1 r
  refine call_list_str (I.ok.hd hc) z t (fun h' tk acc c hk hS hi => ?_) hz
  have hn := I.hok.fresh (Nat.le_refl s.heap.objs.size)
  refine ⟨.ref s.heap.objs.size, _, I.laid (t' := tk) hk (Nat.le_refl _) (show ObjOk X.prog X.w _ _ _ (.lst (z.cps.toList.map fun c => V.str ⟨#[c]⟩)) from ⟨by rw [List.length_map, Array.length_toList]; exact hz, acc.toList, c, ?_, by rw [Array.toArray_toList]; exact hS⟩), rfl, q _ hn⟩
  obtain ⟨h1, h2⟩ := hi
  refine vals_of_at (by simp [h1]) fun j x u e1 e2 => ?_
  rw [List.getElem?_map, Array.getElem?_toList] at e1
  obtain ⟨cp, t', hcp, ht⟩ := h2 j u (by rw [← Array.getElem?_toList]; exact e2)
  rw [hcp] at e1
  cases e1
  exact ⟨t', ht⟩
/-! ### sep.join(reversed(xs)) -/
theorem join_rev {prog : Program} {w : World} {A : Around} {E : Value → Shared → Prop} {s : Shared} {it l : Addr} {items : Array Value} {ys : List Str} {x : Str} {t : Tok} {Q : Value → Shared → Prop} (hh : A.handled = none) (hit : s.heap.IsRevIter it l ((items.size : Int) - 1)) (hl : s.heap.IsList l items) (hne : l ≠ it) (hn : items.size ≤ sizeLine)
    (hs : ∀ acc : Array Value, ItemsOf (fun i v => items[items.size - 1 - i]? = some v) acc items.size → StrsAre acc.toList ys) (hz : (ys.map (·.length)).sum + ys.length * x.length ≤ 16777216)
    (h : ∀ h' t' k, (∀ b o, b ≠ it → s.heap.get? b = some o → h'.get? b = some o) → Q (.str (Txt.join x ys) t') { s with heap := h', toks := k }) :
    wpAny (model prog w) A (call (.builtin "str.join") [.str x t, .ref it]) Q E s := by
  refine wpAny_call (codeAny_call_builtin F.slot_str_join.plain F.entry_str_join (F.slot_str_join.check _ _ _ _ _ _ _ _ (typeIs_str _ _ _) (F.args_str_join_2 _ _) ?_))
  rw [join_tree_other]
  have hT : s.TypeIs (.ref it) "list_reverseiterator" := Heap.IsRevIter.typeIs hit
  refine wpAny_bind (wpAny_typeOf hT ?_)
  show wpAny _ A.in1 ((pyIter (.ref it)).tryCatch _ >>= fun it => collect it >>= fun items => PySem.joinTail x items) _ _ s
  refine wpAny_bind (wpAny_tryCatch (wpAny_pyIter_revIter hit ?_))
  refine wpAny_bind (RT.collect_rev (A := A.in1) hh hit hl hne hn fun h' tk acc k hi => ?_)
  obtain ⟨lv, hlv, hm⟩ := strsAre_values (hs acc hi)
  rw [hlv]
  have hok : JoinOk x (lv.map (·.1)) = true := by rw [hm]; exact joinOk_of hz
  have hok' := hok
  unfold JoinOk at hok
  rw [Bool.not_eq_true'] at hok
  have g : Gives (PySem.joinTail x (strValues lv)) (joinMade x lv) := by
    have g0 := gives_joinTail x lv hok
    cases lv with
    | nil => exact g0
    | cons p r => cases r with
      | nil => exact g0
      | cons q r' => exact g0
  refine g prog w A (wants Q E) _ (post_join lv ⟨joinFit_length hok, fun t' k' => ?_⟩)
  rw [hm]
  exact h h' t' k' k
end
section
variable {X : Cx}
def tJoinRev (K : PySem.W.Frag) (te ta : TE) : TE := fun σ H Q => te σ H fun v H1 => (∃ a, v = .str a) ∧ ta σ H1 fun y H2 => ∃ (x : Str) (q : Addr) (xs : List V) (ys : List Str), v = .str x ∧ y = .ref q ∧ SqL K H2 q xs ∧ xs = ys.map V.str ∧ (ys.map (·.length)).sum + ys.length * x.length ≤ 16777216 ∧ Q (.str (Txt.join x ys.reverse)) H2
theorem strs_of_vals : ∀ {ys : List Str} {us : List Value}, Vals (ys.map V.str) us → StrsAre us ys
  | [], _, .nil => .nil
  | y :: ys, _, .cons r rr => by
    obtain ⟨t, rfl⟩ := r
    exact .cons y t (strs_of_vals rr)
theorem pe_joinRev {o e : Expr} {to ta : TE} {apos pos p pos2 : Pos} (hc : X.calm = true) (ho : PE X o to) (hg : Gl X "reversed") (hm : X.mg "reversed" = none) (ha : PE X e ta)
    (hs1 : starEach [.Call (.Name "reversed" p) [e] [] pos2] X.env = [(false, eval (.Call (.Name "reversed" p) [e] [] pos2) X.env)] := by rfl)
    (hs : starEach [e] X.env = (false, eval e X.env) :: starEach [] X.env := by rfl)
    (hbase : attributeBase o "join" X.env (eval o X.env) = eval o X.env := by rfl) (hline : (apos.endLine == pos.line) = true := by rfl) :
    PE X (.Call (.Attribute o "join" apos) [.Call (.Name "reversed" p) [e] [] pos2] [] pos) (tJoinRev X.K to ta) := by
  refine ⟨fun pins s σ H Q I h => ?_⟩
  refine PySem.Call_method1 hbase hs1 hline (thn (ho.run pins s σ H _ I h) fun v s1 ⟨x, H1, I1, r1, q1⟩ => ?_)
  obtain ⟨⟨a, rfl⟩, q1⟩ := q1
  obtain ⟨t, rfl⟩ := _root_.id r1
  refine ⟨"str", _, F.plainAttrs_str, F.slot_str_join, F.type_str_join, typeIs_str _ _ _, (fun _ e => nomatch e), Calls.callWith_builtin rfl (Calls.evalArgs_plain (Calls.spliced_cons ?_))⟩
  refine Call_ (ld_blt I1 hg hm PyProof.Rows.boot_reversed (PyProof.Rows.callWith_type1 (args_cons (thn (ha.run pins s1 σ H1 _ I1 q1) fun u s2 ⟨y, H2, I2, r2, q2⟩ => args_nil ?_) hs) hs rfl))
  obtain ⟨x, l, xs, ys, ex, ey, hq, hx, hz, q⟩ := q2
  cases ex
  subst ey
  obtain rfl : u = Value.ref l := r2
  obtain ⟨its, rv, p', hsz⟩ := I2.list hq
  refine call_reversed_list p'.isList ?_
  have k0 : ∀ b o, s2.heap.get? b = some o → (s2.heap.push (revObj l ((its.toArray.size : Int) - 1))).get? b = some o := fun b o e => Heap.get?_push_of_some _ e
  have I3 : Inv X pins σ H2 { s2 with heap := s2.heap.push (revObj l ((its.toArray.size : Int) - 1)) } := I2.kept (t' := s2.toks) k0
  obtain ⟨f0, f1, f2, f3, f4, f5⟩ := I2.fpOk (H' := H2) (b := s2.heap.objs.size) (Nat.le_refl _) (I2.hok.fresh (Nat.le_refl _))
  have hl := p'.isList
  obtain ⟨ol, hol, _⟩ := id hl
  have hne : l ≠ s2.heap.objs.size := Nat.ne_of_lt (Heap.lt_size hol)
  have hn : its.toArray.size ≤ sizeLine := by rw [List.size_toArray, ← rv.length]; exact hsz
  refine Calls.spliced_nil ?_
  refine join_rev (s := { s2 with heap := s2.heap.push (revObj l ((its.toArray.size : Int) - 1)) }) (ys := ys.reverse) (I2.ok.hd hc) ⟨_, Heap.get?_push_size _ rfl, rfl, rfl⟩ (hl.push _) hne hn (fun acc hi => ?_) (by simpa using hz) fun h' t' k hk => ?_
  · have rr := RT.vals_rev rv hi
    subst hx
    rw [← List.map_reverse] at rr
    exact strs_of_vals rr
  · have I4 : Inv X pins σ H2 { s2 with heap := h', toks := k } := I3.turned (t' := k) (fun b o hb e => hk b o hb e) f0 f1 f3 f4 f5
    exact ⟨.str _, H2, I4, ⟨t', rfl⟩, q⟩
end
end FwR

set_option Elab.async false
set_option linter.all false
set_option maxRecDepth 100000
set_option maxHeartbeats 1000000
/-! FW, part Z: zip of any two walks; of a tuple and a list. -/
namespace FwZ
open PySem PySem.Spec PyProof.Rows L2

/-! ### what a walk does when asked for its next item -/
def Stays (G : Heap → Prop) (bs : List Addr) : Prop := ∀ h h' b, b ∈ bs → Heap.ExtBut b h h' → G h → G h'
def Draws (P : Program) (w : World) (i : Addr) (G : Heap → Prop) (x : Value) (G' : Heap → Prop) : Prop :=
  ∀ (A : Around) (E : Value → Shared → Prop) (s : Shared) (Q : Value → Shared → Prop), G s.heap → (∀ h', G' h' → Heap.SameBut i s.heap h' → Q x { s with heap := h' }) → wpAny (model P w) A (Builtin.SmallTypes.nextOf (.ref i)) Q E s
def Stops (P : Program) (w : World) (i : Addr) (G : Heap → Prop) : Prop :=
  ∀ (A : Around) (E : Value → Shared → Prop) (s : Shared) (Q : Value → Shared → Prop), A.handled = none → G s.heap → (∀ h' e, Heap.ExtBut i s.heap h' → (∃ o, h'.get? e = some o ∧ o.cls = .type "StopIteration") → E (.ref e) { s with heap := h' }) → wpAny (model P w) A (Builtin.SmallTypes.nextOf (.ref i)) Q E s
section
variable {prog : Program} {w : World} {A : Around} {E : Value → Shared → Prop} {s : Shared} {z TI TO i1 i2 : Addr}
structure Apart5 (z TI TO i1 i2 : Addr) : Prop where
  a : TI ≠ z ∧ TO ≠ z ∧ i1 ≠ z ∧ i2 ≠ z ∧ TO ≠ i1 ∧ TO ≠ i2 ∧ i1 ≠ i2

/-- the walk begins alike, whatever comes -/
theorem zip_begin {Q : Fin → Shared → Prop} {a b : Value} (hz : IsZip s.heap z TI TO .none) (hTI : IsPair s.heap TI (.ref i1) (.ref i2)) (h : ∀ h₁, IsZip h₁ z TI TO .ellipsis → Heap.SameBut z s.heap h₁ →
    wpAny (model prog w) A (Builtin.SmallTypes.nextOf (.ref i1)) (fun x t => IsPair t.heap TO a b ∧ ∀ h₃, IsPair h₃ TO x b → Heap.SameBut TO t.heap h₃ →
      wpAny (model prog w) A (Builtin.SmallTypes.nextOf (.ref i2)) (fun y t' => IsPair t'.heap TO x b ∧ ∀ h₅, IsPair h₅ TO x y → Heap.SameBut TO t'.heap h₅ → IsZip h₅ z TI TO .ellipsis ∧
        ∀ h₈, IsZip h₈ z TI TO (rawInt h₅.objs.size) → IsPair h₈ h₅.objs.size x y → h₈.objs.size = h₅.objs.size + 1 → (∀ c o, c ≠ z → h₅.get? c = some o → h₈.get? c = some o) → Q (.done (.ret (.ref h₅.objs.size))) { t' with heap := h₈ })
        (fun e t => ∀ h', IsZip t.heap z TI TO .ellipsis ∧ (Heap.SameBut z t.heap h' → E e { t with heap := h' })) { t with heap := h₃ })
      (fun e t => ∀ h', IsZip t.heap z TI TO .ellipsis ∧ (Heap.SameBut z t.heap h' → E e { t with heap := h' })) { s with heap := h₁ }) :
    wpAny (model prog w) A (Builtin.«zip.__next__» ⟨[.ref z], []⟩) Q E s := by
  show wpAny _ _ (field (.ref z) 2 >>= _) _ _ _
  refine wpAny_bind (wpAny_field hz rfl (x := .bool false) rfl ?_)
  show wpAny _ _ (field (.ref z) 3 >>= _) _ _ _
  refine wpAny_bind (wpAny_field hz rfl (x := .ref TI) rfl (wpAny_bind (wpAny_seqItems hTI rfl ?_)))
  show wpAny _ _ (Builtin.SmallTypes.ownedTupleIsFree (.ref z) >>= _) _ _ _
  refine wpAny_bind ?_
  unfold Builtin.SmallTypes.ownedTupleIsFree
  refine wpAny_bind (wpAny_field hz rfl (x := .none) rfl (wpAny_pure ?_))
  simp only [if_true]
  refine wpAny_bind (wpAny_rule (wpAny_bind (wpAny_field hz rfl (x := .ref TO) rfl ?_)))
  refine wpAny_bind (wpAny_setField_rec hz (by simp) fun h₁ hz₁ hs₁ => wpAny_bind ?_)
  simp only [List.zipIdx_cons, List.zipIdx_nil, List.forIn_cons, List.forIn_nil]
  refine wpAny_bind (wpAny_bind (wpAny_onRaise ?_))
  refine wpAny_bind (wpAny_mono (h h₁ hz₁ hs₁) (fun x t q => wpAny_pure ?_) fun e t q => ?_)
  · obtain ⟨p, q⟩ := q
    refine wpAny_bind (wpAny_seqItems p rfl (wpAny_bind (wpAny_updateSeq_pair p fun h₃ p₃ s₃ => wpAny_bind (wpAny_letGo (wpAny_pure ?_)))))
    refine wpAny_bind (wpAny_bind (wpAny_onRaise ?_))
    refine wpAny_bind (wpAny_mono (q h₃ p₃ s₃) (fun y t' q' => wpAny_pure ?_) fun e t' q' => ?_)
    · obtain ⟨p', q'⟩ := q'
      refine wpAny_bind (wpAny_seqItems p' rfl (wpAny_bind (wpAny_updateSeq_pair p' fun h₅ p₅ s₅ => wpAny_bind (wpAny_letGo (wpAny_pure (wpAny_pure ?_))))))
      replace p₅ : IsPair h₅ TO x y := p₅
      refine wpAny_bind (wpAny_seqItems p₅ rfl (wpAny_bind (wpAny_newTuple ?_)))
      obtain ⟨z₅, q''⟩ := q' h₅ p₅ s₅
      have hzlt : z < h₅.objs.size := Heap.lt_size z₅
      show wpAny _ _ (Builtin.SmallTypes.ownedTupleHandOut (.ref z) (.ref h₅.objs.size) >>= _) _ _ _
      refine wpAny_bind ?_
      unfold Builtin.SmallTypes.ownedTupleHandOut
      have z₆ : IsZip (h₅.push { cls := .type "tuple", data := .seq #[x, y] }) z TI TO .ellipsis := Heap.get?_push_of_some _ z₅
      refine wpAny_bind (wpAny_setField_rec z₆ (by simp) fun h₇ z₇ s₇ => wpAny_setField_rec z₇ (by simp) fun h₈ z₈ s₈ => wpAny_pure ?_)
      have up : ∀ c o, c ≠ z → h₅.get? c = some o → h₈.get? c = some o := fun c o c1 e => s₈.extBut _ _ c1 (s₇.extBut _ _ c1 (Heap.get?_push_of_some _ e))
      exact q'' h₈ z₈ (s₈.extBut _ _ (Nat.ne_of_gt hzlt) (s₇.extBut _ _ (Nat.ne_of_gt hzlt) (Heap.get?_push_size _ rfl))) (by rw [s₈.1, s₇.1, Heap.size_push]) up
    · refine wpAny_setField_rec (q' t'.heap).1 (by simp) fun h₃ _ hs₃ => (q' h₃).2 hs₃
  · refine wpAny_setField_rec (q t.heap).1 (by simp) fun h₃ _ hs₃ => (q h₃).2 hs₃

/-- the next pair -/
theorem next_item {l : List Addr} {a b x y : Value} {G1 G1' G2 G2' : Heap → Prop} {Q : Option Value → Shared → Prop} (ap : Apart5 z TI TO i1 i2) (d1 : Draws prog w i1 G1 x G1') (d2 : Draws prog w i2 G2 y G2') (b1 : Stays G1 [z]) (b1' : Stays G1' [z, TO, i2]) (b2 : Stays G2 [z, TO, i1]) (b2' : Stays G2' [z, TO])
    (u1' : ∀ h h', (∀ c o, c ≠ z → h.get? c = some o → h'.get? c = some o) → G1' h → G1' h') (u2' : ∀ h h', (∀ c o, c ≠ z → h.get? c = some o → h'.get? c = some o) → G2' h → G2' h')
    (hz : IsZip s.heap z TI TO .none) (hTI : IsPair s.heap TI (.ref i1) (.ref i2)) (hTO : IsPair s.heap TO a b) (h1 : G1 s.heap) (h2 : G2 s.heap)
    (hQ : ∀ h', IsZip h' z TI TO (rawInt s.heap.objs.size) → IsPair h' TO x y → G1' h' → G2' h' → IsPair h' s.heap.objs.size x y → h'.objs.size = s.heap.objs.size + 1 →
      (∀ c o, c ≠ z → c ≠ TO → c ≠ i1 → c ≠ i2 → s.heap.get? c = some o → h'.get? c = some o) → Q (some (.ref s.heap.objs.size)) { s with heap := h' }) :
    wpAny (model prog w) A (pyNext (.ref z)) Q E s := by
  obtain ⟨n1, n2, n3, n4, n5, n6, n7⟩ := ap.a
  have hT : s.TypeIs (.ref z) "zip" := ⟨_, hz, rfl⟩
  unfold pyNext
  refine wpAny_bind (wpAny_attempt (wpAny_callSpecial?_slot (name := Str.ofString "__next__") hT F.slot_zip_next (wpAny_call_entry F.slot_zip_next hT F.entry_zip_next ?_ (F.args_zip_next_1 _))))
  refine zip_begin (a := a) (b := b) hz hTI fun h₁ z₁ s₁ => d1 _ _ { s with heap := h₁ } _ (b1 _ _ z (by simp) s₁.extBut h1) fun h₂ g₂ s₂ => ⟨s₂.extBut _ _ n5 (s₁.extBut _ _ n2 hTO), fun h₃ p₃ s₃ =>
    d2 _ _ { s with heap := h₃ } _ (b2 _ _ TO (by simp) s₃.extBut (b2 _ _ i1 (by simp) s₂.extBut (b2 _ _ z (by simp) s₁.extBut h2))) fun h₄ g₄ s₄ => ⟨s₄.extBut _ _ n6 p₃, fun h₅ p₅ s₅ => ⟨s₅.extBut _ _ n2.symm (s₄.extBut _ _ n4.symm (s₃.extBut _ _ n2.symm (s₂.extBut _ _ n3.symm z₁))), fun h₈ z₈ p₈ e₈ up => ?_⟩⟩⟩
  have hsz : h₅.objs.size = s.heap.objs.size := by rw [s₅.1, s₄.1, s₃.1, s₂.1, s₁.1]
  rw [hsz] at z₈ p₈ e₈ ⊢
  exact ⟨_, rfl, wpAny_pure (hQ h₈ z₈ (up _ _ n2 p₅) (u1' _ _ up (b1' _ _ TO (by simp) s₅.extBut (b1' _ _ i2 (by simp) s₄.extBut (b1' _ _ TO (by simp) s₃.extBut g₂)))) (u2' _ _ up (b2' _ _ TO (by simp) s₅.extBut g₄)) p₈ e₈ fun c o c1 c2 c3 c4 e =>
    up c o c1 (s₅.extBut _ _ c2 (s₄.extBut _ _ c4 (s₃.extBut _ _ c2 (s₂.extBut _ _ c3 (s₁.extBut _ _ c1 e))))))⟩

/-- an end, at the first or at the second -/
theorem next_end {a b : Value} {G1 G2 : Heap → Prop} {Q : Option Value → Shared → Prop} (hh : A.handled = none) (ap : Apart5 z TI TO i1 i2) (h12 : Stops prog w i1 G1 ∨ ∃ x G1', Draws prog w i1 G1 x G1' ∧ Stops prog w i2 G2) (b1 : Stays G1 [z]) (b2 : Stays G2 [z, TO, i1])
    (hz : IsZip s.heap z TI TO .none) (hTI : IsPair s.heap TI (.ref i1) (.ref i2)) (hTO : IsPair s.heap TO a b) (h1 : G1 s.heap) (h2 : G2 s.heap)
    (hQ : ∀ h', (∀ c o, c ≠ z → c ≠ TO → c ≠ i1 → c ≠ i2 → s.heap.get? c = some o → h'.get? c = some o) → Q none { s with heap := h' }) :
    wpAny (model prog w) A (pyNext (.ref z)) Q E s := by
  obtain ⟨n1, n2, n3, n4, n5, n6, n7⟩ := ap.a
  have hT : s.TypeIs (.ref z) "zip" := ⟨_, hz, rfl⟩
  unfold pyNext
  have fin : ∀ (h' : Heap) (e : Addr), (∀ c o, c ≠ z → c ≠ TO → c ≠ i1 → c ≠ i2 → s.heap.get? c = some o → h'.get? c = some o) → (∃ o, h'.get? e = some o ∧ o.cls = .type "StopIteration") →
      wpAny (model prog w) A (isInstance (.ref e) (.type "StopIteration") >>= fun b => if b = true then pure none else throw (.ref e)) Q E { s with heap := h' } := fun h' e hk he => by
    obtain ⟨o, ho, hc⟩ := he
    refine wpAny_bind (wpAny_isInstance (T := "StopIteration") (b := true) ⟨o, ho, hc⟩ isSubtype_stop ?_)
    exact wpAny_pure (hQ _ hk)
  refine wpAny_bind (wpAny_attempt (wpAny_callSpecial?_slot (name := Str.ofString "__next__") hT F.slot_zip_next (wpAny_call_entry F.slot_zip_next hT F.entry_zip_next ?_ (F.args_zip_next_1 _))))
  refine zip_begin (a := a) (b := b) hz hTI fun h₁ z₁ s₁ => ?_
  have g1 : G1 h₁ := b1 _ _ z (by simp) s₁.extBut h1
  have g2 : G2 h₁ := b2 _ _ z (by simp) s₁.extBut h2
  have no : ∀ {h : Heap} {e : Addr} {o : Obj}, IsZip h z TI TO .ellipsis → h.get? e = some o → o.cls = .type "StopIteration" → e ≠ z := fun hz ho hc x => by subst x; rw [hz] at ho; cases ho; simp at hc
  rcases h12 with d1 | ⟨x, G1', d1, d2⟩
  · refine d1 _ _ { s with heap := h₁ } _ hh g1 fun h₂ e s₂ he h' => ⟨s₂ _ _ n3.symm z₁, fun s₃ => ?_⟩
    obtain ⟨o, ho, hc⟩ := he
    exact fin h' e (fun c o c1 c2 c3 c4 q => s₃.extBut _ _ c1 (s₂ _ _ c3 (s₁.extBut _ _ c1 q))) ⟨o, s₃.extBut _ _ (no (s₂ _ _ n3.symm z₁) ho hc) ho, hc⟩
  · refine d1 _ _ { s with heap := h₁ } _ g1 fun h₂ g₂ s₂ => ⟨s₂.extBut _ _ n5 (s₁.extBut _ _ n2 hTO), fun h₃ p₃ s₃ => ?_⟩
    have g3 : G2 h₃ := b2 _ _ TO (by simp) s₃.extBut (b2 _ _ i1 (by simp) s₂.extBut g2)
    have z₃ : IsZip h₃ z TI TO .ellipsis := s₃.extBut _ _ n2.symm (s₂.extBut _ _ n3.symm z₁)
    refine d2 _ _ { s with heap := h₃ } _ hh g3 fun h₄ e s₄ he h' => ⟨s₄ _ _ n4.symm z₃, fun s₅ => ?_⟩
    obtain ⟨o, ho, hc⟩ := he
    exact fin h' e (fun c o c1 c2 c3 c4 q => s₅.extBut _ _ c1 (s₄ _ _ c4 (s₃.extBut _ _ c2 (s₂.extBut _ _ c3 (s₁.extBut _ _ c1 q))))) ⟨o, s₅.extBut _ _ (no (s₄ _ _ n4.symm z₃) ho hc) ho, hc⟩
end

/-! ### lists (true) and tuples (false) -/
def itN : Bool → String | true => "list_iterator" | false => "tuple_iterator"
abbrev itO (k : Bool) (l : Addr) : Obj := { cls := .type (itN k), data := .fields #[.ref l, .int 0 0] }
def IsSq : Bool → Heap → Addr → Array Value → Prop | true => Heap.IsList | false => Heap.IsTuple
def IsIt (k : Bool) (h : Heap) (i l : Addr) (n : Nat) : Prop := ∃ o, h.get? i = some o ∧ o.cls = .type (itN k) ∧ o.data = .fields #[.ref l, .int n 0]
theorem IsSq.keep : ∀ {k : Bool} {h h' : Heap} {a : Addr} {xs : Array Value}, IsSq k h a xs → (∀ o, h.get? a = some o → h'.get? a = some o) → IsSq k h' a xs
  | true, _, _, _, _, ⟨o, ho, r⟩, e => ⟨o, e o ho, r⟩
  | false, _, _, _, _, ⟨o, ho, r⟩, e => ⟨o, e o ho, r⟩
theorem IsSq.lt : ∀ {k : Bool} {h : Heap} {a : Addr} {xs : Array Value}, IsSq k h a xs → a < h.objs.size
  | true, _, _, _, ⟨_, ho, _⟩ => Heap.lt_size ho
  | false, _, _, _, ⟨_, ho, _⟩ => Heap.lt_size ho
theorem IsIt.at {k : Bool} {h h' : Heap} {i l : Addr} {n : Nat} (x : IsIt k h i l n) (e : ∀ o, h.get? i = some o → h'.get? i = some o) : IsIt k h' i l n := let ⟨o, ho, r⟩ := x; ⟨o, e o ho, r⟩
section
variable {prog : Program} {w : World} {A : Around} {E : Value → Shared → Prop} {s : Shared}
theorem pyIter_k : ∀ {k : Bool} {l : Addr} {xs : Array Value} {Q : Value → Shared → Prop}, IsSq k s.heap l xs → Q (.ref s.heap.objs.size) { s with heap := s.heap.push (itO k l) } → wpAny (model prog w) A (pyIter (.ref l)) Q E s
  | true, _, _, _, h, q => wpAny_pyIter_list h q
  | false, _, _, _, h, q => wpAny_pyIter_tuple h q
theorem draws_k (k : Bool) {i l : Addr} {n : Nat} {xs : Array Value} {x : Value} (hne : l ≠ i) (hx : xs[n]? = some x) : Draws prog w i (fun h => IsIt k h i l n ∧ IsSq k h l xs) x (fun h => IsIt k h i l (n + 1)) := fun A E s Q g h => by
  cases k with
  | true => exact wpAny_nextOf_list_item g.1 g.2 hx h
  | false => exact RZ.nextOf_tuple_item g.1 g.2 hx h
theorem stops_k (k : Bool) {i l : Addr} {n : Nat} {xs : Array Value} (hx : xs[n]? = none) : Stops prog w i (fun h => IsIt k h i l n ∧ IsSq k h l xs) := fun A E s Q hh g h => by
  cases k with
  | true => exact wpAny_nextOf_list_end hh g.1 g.2 hx h
  | false => exact RZ.nextOf_tuple_end hh g.1 g.2 hx h
theorem stays_k {k : Bool} {i l : Addr} {n : Nat} {xs : Array Value} {bs : List Addr} (hi : i ∉ bs) (hl : l ∉ bs) : Stays (fun h => IsIt k h i l n ∧ IsSq k h l xs) bs := fun h h' b hb e g => ⟨g.1.at fun o q => e _ o (fun z => hi (z ▸ hb)) q, g.2.keep fun o q => e _ o (fun z => hl (z ▸ hb)) q⟩
theorem stays_i {k : Bool} {i l : Addr} {n : Nat} {bs : List Addr} (hi : i ∉ bs) : Stays (fun h => IsIt k h i l n) bs := fun h h' b hb e g => g.at fun o q => e _ o (fun z => hi (z ▸ hb)) q
abbrev zh1 (h : Heap) (k : Bool) (l1 : Addr) : Heap := h.push (itO k l1)
abbrev zh2 (h : Heap) (k k' : Bool) (l1 l2 : Addr) : Heap := (zh1 h k l1).push (itO k' l2)
abbrev zh3 (h : Heap) (k k' : Bool) (l1 l2 : Addr) : Heap := (zh2 h k k' l1 l2).push { cls := .type "tuple", data := .seq #[.ref h.objs.size, .ref (zh1 h k l1).objs.size] }
abbrev zh4 (h : Heap) (k k' : Bool) (l1 l2 : Addr) : Heap := (zh3 h k k' l1 l2).push { cls := .type "tuple", data := .seq #[.none, .none] }
abbrev zh5 (h : Heap) (k k' : Bool) (l1 l2 : Addr) : Heap := (zh4 h k k' l1 l2).push { cls := .type "zip", data := .fields #[.none, .bool false, .bool false, .ref (zh2 h k k' l1 l2).objs.size, .ref (zh3 h k k' l1 l2).objs.size] }
theorem meets_new (k k' : Bool) (l1 l2 : Addr) (xs ys : Array Value) :
    Meets (Builtin.«zip.__new__» ⟨[.type "zip", .ref l1, .ref l2], []⟩) (fun _ R s => IsSq k s.heap l1 xs ∧ IsSq k' s.heap l2 ys ∧ R (.ok (.ret (.ref (zh4 s.heap k k' l1 l2).objs.size))) { s with heap := zh5 s.heap k k' l1 l2 }) :=
  .of_wp fun prog w A R s h => by
    obtain ⟨hp, g, d, tk, os⟩ := s; obtain ⟨hl1, hl2, h⟩ := h
    have hsub := sub_zip
    have hL1 : IsSq k (Shared.heap ⟨hp, g, d, tk, os⟩) l1 xs := hl1
    have hL2 : IsSq k' (Shared.heap ⟨hp.push (itO k l1), g, d, tk, os⟩) l2 ys := IsSq.keep hl2 fun o e => Heap.get?_push_of_some _ e
    wp_walk using pyIter_k hL1, pyIter_k hL2
    exact ⟨_, rfl, h⟩
theorem call_zip {k k' : Bool} {l1 l2 : Addr} {xs ys : Array Value} {Q : Value → Shared → Prop} (hl1 : IsSq k s.heap l1 xs) (hl2 : IsSq k' s.heap l2 ys)
    (h : ∀ h', IsZip h' (s.heap.objs.size + 4) (s.heap.objs.size + 2) (s.heap.objs.size + 3) .none → IsPair h' (s.heap.objs.size + 2) (.ref s.heap.objs.size) (.ref (s.heap.objs.size + 1)) →
      IsPair h' (s.heap.objs.size + 3) .none .none → IsIt k h' s.heap.objs.size l1 0 → IsIt k' h' (s.heap.objs.size + 1) l2 0 → (∀ c o, s.heap.get? c = some o → h'.get? c = some o) → Q (.ref (s.heap.objs.size + 4)) { s with heap := h' }) :
    wpAny (model prog w) A (call (.type "zip") [.ref l1, .ref l2]) Q E s := by
  refine callType_new F.called_zip (by decide) (F.typeCall_zip_2 _ _) (F.newCall_zip_2 _ _) (fun obj => F.args_object_init_3 obj _ _) F.entry_zip_new (meets_new k k' l1 l2 xs ys) ⟨hl1, hl2, ?_⟩
  have e1 : (zh1 s.heap k l1).objs.size = s.heap.objs.size + 1 := Heap.size_push ..
  have e2 : (zh2 s.heap k k' l1 l2).objs.size = s.heap.objs.size + 2 := by rw [Heap.size_push, e1]
  have e3 : (zh3 s.heap k k' l1 l2).objs.size = s.heap.objs.size + 3 := by rw [Heap.size_push, e2]
  have e4 : (zh4 s.heap k k' l1 l2).objs.size = s.heap.objs.size + 4 := by rw [Heap.size_push, e3]
  have up := fun (h : Heap) (o : Obj) (c : Addr) (o' : Obj) (e : h.get? c = some o') => Heap.get?_push_of_some (h := h) o e
  have g5 : (zh5 s.heap k k' l1 l2).get? (zh4 s.heap k k' l1 l2).objs.size = some _ := Heap.get?_push_size _ rfl
  have g4 : (zh5 s.heap k k' l1 l2).get? (zh3 s.heap k k' l1 l2).objs.size = some _ := up _ _ _ _ (Heap.get?_push_size _ rfl)
  have g3 : (zh5 s.heap k k' l1 l2).get? (zh2 s.heap k k' l1 l2).objs.size = some _ := up _ _ _ _ (up _ _ _ _ (Heap.get?_push_size _ rfl))
  have g2 : (zh5 s.heap k k' l1 l2).get? (zh1 s.heap k l1).objs.size = some _ := up _ _ _ _ (up _ _ _ _ (up _ _ _ _ (Heap.get?_push_size _ rfl)))
  have g1 : (zh5 s.heap k k' l1 l2).get? s.heap.objs.size = some _ := up _ _ _ _ (up _ _ _ _ (up _ _ _ _ (up _ _ _ _ (Heap.get?_push_size _ rfl))))
  show _ ∧ _
  rw [e2, e3, e4] at g5
  rw [e1, e2] at g3
  rw [e3] at g4
  rw [e1] at g2
  rw [e4]
  exact ⟨⟨_, g5, rfl⟩, h _ g5 g3 g4 ⟨_, g1, rfl, rfl⟩ ⟨_, g2, rfl, rfl⟩ fun c o x => up _ _ _ _ (up _ _ _ _ (up _ _ _ _ (up _ _ _ _ (up _ _ _ _ x))))⟩
end

/-! ### the turns -/
def Sqk : Bool → PySem.W.Frag → Hp → Addr → List V → Prop | true => SqL | false => SqT
theorem sq_of {X : Cx} {pins : List (Addr × Obj)} {σ : L2.St} {H : Hp} {s : Shared} (I : Inv X pins σ H s) {k : Bool} {a : Addr} {xs : List V} (h : Sqk k X.K H a xs) : ∃ its, Vals xs its ∧ IsSq k s.heap a its.toArray := by
  cases k with
  | true => obtain ⟨its, rv, p, _⟩ := I.list h; exact ⟨its, rv, p.isList⟩
  | false => obtain ⟨its, rv, p, _⟩ := I.tuple h; exact ⟨its, rv, p⟩
theorem sq_inj {X : Cx} {pins : List (Addr × Obj)} {σ : L2.St} {H : Hp} {s : Shared} (I : Inv X pins σ H s) {k : Bool} {a : Addr} {xs ys : List V} (h : Sqk k X.K H a xs) (h' : Sqk k X.K H a ys) : xs = ys := by
  cases k with
  | true => exact I.list_inj h h'
  | false => exact I.tuple_inj h h'
def Itm (K : PySem.W.Frag) (k k' : Bool) (a b : Addr) : It :=
  ⟨fun i H => ∃ (xs ys : List V) (x y : V), Sqk k K H a xs ∧ Sqk k' K H b ys ∧ xs[i]? = some x ∧ ys[i]? = some y,
    fun i H v H' => ∃ T x y, v = .ref T ∧ H T = none ∧ H' = upd H T (.tup [x, y]) ∧ (∀ xs, Sqk k K H a xs → xs[i]? = some x) ∧ ∀ ys, Sqk k' K H b ys → ys[i]? = some y,
    fun i H => ∃ xs ys : List V, Sqk k K H a xs ∧ Sqk k' K H b ys ∧ (xs.length ≤ i ∨ ys.length ≤ i)⟩
theorem turn_m {P : Program} {w : World} {K : PySem.W.Frag} {elts : List Expr} {kk : Nat} {tpos : Pos} {k k' : Bool} {a b z TI TO i1 i2 : Addr} (D : ZipApart z TI TO i1 i2 a b) :
    Turn P w K (.Tuple elts kk tpos) (Itm K k k' a b) [z, TI, TO, i1, i2] z (fun i h => IsZip h z TI TO .none ∧ IsPair h TI (.ref i1) (.ref i2) ∧ (∃ x y, IsPair h TO x y) ∧ IsIt k h i1 a i ∧ IsIt k' h i2 b i) := by
  have five : ∀ {p : Addr → Prop}, p z → p TI → p TO → p i1 → p i2 → ∀ c ∈ [z, TI, TO, i1, i2], p c := fun p1 p2 p3 p4 p5 c hc => by
    have e : c = z ∨ c = TI ∨ c = TO ∨ c = i1 ∨ c = i2 := by simpa using hc
    rcases e with q | q | q | q | q <;> rw [q] <;> assumption
  have ap : Apart5 z TI TO i1 i2 := ⟨D.TIz, D.TOz, D.i1z, D.i2z, D.TOi1, D.TOi2, D.i12⟩
  have m1 : ∀ n xs, Stays (fun h => IsIt k h i1 a n ∧ IsSq k h a xs) [z] := fun n xs => stays_k (by simp [D.i1z]) (by simp [D.l1z])
  have m2 : ∀ n xs, Stays (fun h => IsIt k' h i2 b n ∧ IsSq k' h b xs) [z, TO, i1] := fun n xs => stays_k (by simp [D.i2z, D.TOi2.symm, D.i12.symm]) (by simp [D.l2z, D.l2TO, D.l2i1])
  refine ⟨by simp, fun i h st => ?_, fun i h h' st q => ?_, ?_, ?_, fun A i s Q E st h => wpAny_pyIter_zip st.1 h⟩
  · obtain ⟨hz, hTI, ⟨x, y, hTO⟩, ⟨o1, e1, _, d1⟩, ⟨o2, e2, _, d2⟩⟩ := st
    exact five ⟨_, hz, fun v q => nomatch q⟩ ⟨_, hTI, fun v q => nomatch q⟩ ⟨_, hTO, fun v q => nomatch q⟩ ⟨o1, e1, fun v q => by rw [d1] at q; cases q⟩ ⟨o2, e2, fun v q => by rw [d2] at q; cases q⟩
  · obtain ⟨hz, hTI, ⟨x, y, hTO⟩, h1, h2⟩ := st
    exact ⟨q z (by simp) _ hz, q TI (by simp) _ hTI, ⟨x, y, q TO (by simp) _ hTO⟩, h1.at fun o e => q i1 (by simp) o e, h2.at fun o e => q i2 (by simp) o e⟩
  · intro X hP hw hK hc i pins s σ H E I hf st hg
    subst hP hw hK
    obtain ⟨hz, hTI, ⟨x0, y0, hTO⟩, h1, h2⟩ := st
    obtain ⟨xs, ys, x, y, hqx, hqy, hx, hy⟩ := hg
    obtain ⟨its, rv, p⟩ := sq_of I hqx
    obtain ⟨its2, rv2, p2⟩ := sq_of I hqy
    obtain ⟨u, hu, ru⟩ := rv.get hx
    obtain ⟨u2, hu2, ru2⟩ := rv2.get hy
    have hzl : z < s.heap.objs.size := Heap.lt_size hz
    refine next_item (l := []) ap (draws_k k (n := i) (x := u) (xs := its.toArray) D.l1i1 (by simpa using hu)) (draws_k k' (n := i) (x := u2) (xs := its2.toArray) D.l2i2 (by simpa using hu2)) (m1 _ _) (stays_i (by simp [D.i1z, D.TOi1.symm, D.i12])) (m2 _ _) (stays_i (by simp [D.i2z, D.TOi2.symm]))
      (fun h h' e g => g.at fun o q => e _ o D.i1z q) (fun h h' e g => g.at fun o q => e _ o D.i2z q) hz hTI hTO ⟨h1, p⟩ ⟨h2, p2⟩ fun h' z' TO' g1 g2 hT hsz hk => ?_
    refine ⟨_, rfl, wpAny_letOwnedTupleGo_zip (s := { s with heap := h' }) z' fun h'' z'' sb => ?_⟩
    have far : ∀ c o, c ∉ [z, TI, TO, i1, i2] → s.heap.get? c = some o → h''.get? c = some o := fun c o hb q =>
      (sb.2 c (fun e => hb (by simp [e]))).trans (hk c o (fun e => hb (by simp [e])) (fun e => hb (by simp [e])) (fun e => hb (by simp [e])) (fun e => hb (by simp [e])) q)
    have new : ObjOk X.prog X.w (upd H s.heap.objs.size (.tup [x, y])) h'' s.heap.objs.size (.tup [x, y]) :=
      ⟨by show 2 ≤ sizeLine; decide, [u, u2], .cons ru (.cons ru2 .nil), ⟨_, (sb.2 _ (Nat.ne_of_gt hzl)).trans hT, rfl, _, rfl⟩⟩
    refine ⟨.ref s.heap.objs.size, _, I.turnedNew (t' := s.toks) (ch := [z, TI, TO, i1, i2]) far hf (Nat.le_refl _) new, rfl, ⟨_, x, y, rfl, I.hok.fresh (Nat.le_refl _), rfl, fun l hl => by rw [sq_inj I hl hqx]; exact hx, fun l hl => by rw [sq_inj I hl hqy]; exact hy⟩,
      ⟨z'', (sb.2 _ D.TIz).trans (hk _ _ D.TIz D.TITO D.TIi1 D.TIi2 hTI), ⟨u, u2, (sb.2 _ D.TOz).trans TO'⟩, g1.at fun o q => (sb.2 _ D.i1z).trans q, g2.at fun o q => (sb.2 _ D.i2z).trans q⟩, fun c hcm => ?_⟩
    have hlt : c < s.heap.objs.size := by
      obtain ⟨o1, e1, _⟩ := h1
      obtain ⟨o2, e2, _⟩ := h2
      exact five (p := fun c => c < s.heap.objs.size) hzl (Heap.lt_size hTI) (Heap.lt_size hTO) (Heap.lt_size e1) (Heap.lt_size e2) c hcm
    rw [upd_ne (Nat.ne_of_lt hlt)]
    exact (hf c hcm).1
  · intro X hP hw hK hc i pins s σ H E I hf st hg
    subst hP hw hK
    obtain ⟨hz, hTI, ⟨x0, y0, hTO⟩, h1, h2⟩ := st
    obtain ⟨xs, ys, hqx, hqy, hend⟩ := hg
    obtain ⟨its, rv, p⟩ := sq_of I hqx
    obtain ⟨its2, rv2, p2⟩ := sq_of I hqy
    have l1 := rv.length
    have l2 := rv2.length
    refine next_end (I.ok.hd hc) ap (G1 := fun h => IsIt k h i1 a i ∧ IsSq k h a its.toArray) (G2 := fun h => IsIt k' h i2 b i ∧ IsSq k' h b its2.toArray) ?_ (m1 _ _) (m2 _ _) hz hTI hTO ⟨h1, p⟩ ⟨h2, p2⟩ fun h' hk =>
      ⟨rfl, I.turnedL (t' := s.toks) (ch := [z, TI, TO, i1, i2]) (fun c o hb q => hk c o (fun e => hb (by simp [e])) (fun e => hb (by simp [e])) (fun e => hb (by simp [e])) (fun e => hb (by simp [e])) q) hf⟩
    by_cases hi : i < its.length
    · refine .inr ⟨its[i], _, draws_k k D.l1i1 (by simp [hi]), stops_k k' ?_⟩
      rcases hend with q | q
      · omega
      · simp; omega
    · exact .inl (stops_k k (by simp; omega))
def iZipM (K : PySem.W.Frag) (ta : TA) : TI := fun σ H R => ta σ H fun vs H1 => ∃ (k k' : Bool) (a b : Addr) (xs ys : List V), vs = [.ref a, .ref b] ∧ Sqk k K H1 a xs ∧ Sqk k' K H1 b ys ∧ R (Itm K k k' a b) H1
theorem pi_zipM {X : Cx} {e e2 : Expr} {ta : TA} {p pos tpos : Pos} {elts : List Expr} {kk : Nat} (hg : Gl X "zip") (hm : X.mg "zip" = none) (ha : PA X [e, e2] ta)
    (hs : starEach [e, e2] X.env = (false, eval e X.env) :: starEach [e2] X.env := by rfl) (hpl : (backTo pos (starEach [e2] X.env)).any (·.1) = false := by rfl) :
    PI X (.Tuple elts kk tpos) (.Call (.Name "zip" p) [e, e2] [] pos) (iZipM X.K ta) := by
  refine ⟨fun pins s σ H R I h => ?_⟩
  refine Call_ (ld_blt I hg hm PyProof.Rows.boot_zip (PyProof.Rows.callWith_type1 (thn (ha.run pos pins s σ H _ I h) fun us s1 ⟨vs, H1, I1, r1, q1⟩ => ?_) hs hpl))
  obtain ⟨k, k', a, b, xs, ys, rfl, hqx, hqy, q⟩ := q1
  cases r1 with
  | cons r rr =>
    cases rr with
    | cons r' rr =>
      cases rr
      cases r
      cases r'
      obtain ⟨its, rv, p1⟩ := sq_of I1 hqx
      obtain ⟨its2, rv2, p2⟩ := sq_of I1 hqy
      refine call_zip p1 p2 fun h' hz hTI hTO h1 h2 hk => wpAny_pyIter_zip hz ?_
      refine ⟨s1.heap.objs.size + 4, [s1.heap.objs.size + 4, s1.heap.objs.size + 2, s1.heap.objs.size + 3, s1.heap.objs.size, s1.heap.objs.size + 1], _, _, H1, rfl, I1.kept (t' := s1.toks) hk, turn_m (PySem.W.ktu_apart s1.heap.objs.size a b p1.lt p2.lt), ⟨hz, hTI, ⟨_, _, hTO⟩, h1, h2⟩, fun c hc => ?_, q⟩
      have hle : s1.heap.objs.size ≤ c := by
        have e : c = s1.heap.objs.size + 4 ∨ c = s1.heap.objs.size + 2 ∨ c = s1.heap.objs.size + 3 ∨ c = s1.heap.objs.size ∨ c = s1.heap.objs.size + 1 := by simpa using hc
        rcases e with q | q | q | q | q <;> rw [q]
        · exact Nat.le_add_right _ _
        · exact Nat.le_add_right _ _
        · exact Nat.le_add_right _ _
        · exact Nat.le_refl _
        · exact Nat.le_add_right _ _
      exact I1.fpOk hle (I1.hok.fresh hle)
end FwZ
namespace FW
open PySem PySem.Spec PyProof.Rows L2 FwZ
section
variable {X : Cx} {W : WX}
/-- the items of what is frozen, a list's (true) or a tuple's -/
def seqK : D → Option (Bool × List D)
  | .lst ds => some (true, ds)
  | .scr ds => some (true, ds)
  | .tup ds => some (false, ds)
  | _ => none
theorem seqK_ok {K : KW} {F : Hp} {v : V} {d : D} {k : Bool} {ds : List D} (r : Rep K F v d) (h : seqK d = some (k, ds)) : ∃ a vs, v = .ref a ∧ (∀ H, Same F H → Sqk k K.K H a vs) ∧ RepL K F vs ds := by
  cases r <;> cases h
  · rename_i a vs hh rr
    exact ⟨a, vs, rfl, fun H s => SqL.of (s _ _ hh), rr⟩
  · rename_i a vs hh rr
    exact ⟨a, vs, rfl, fun H s => s.seq hh, rr⟩
  · rename_i a vs hh rr
    exact ⟨a, vs, rfl, fun H s => SqT.of (s _ _ hh), rr⟩
def zipD : List D → List D → List D
  | d :: ds, e :: es => .tup [d, e] :: zipD ds es
  | _, _ => []
theorem zipD_get : ∀ {ds es : List D} {i : Nat} {d e : D}, ds[i]? = some d → es[i]? = some e → (zipD ds es)[i]? = some (.tup [d, e])
  | d :: ds, e :: es, 0, _, _, h, h' => by cases h; cases h'; rfl
  | d :: ds, e :: es, i + 1, _, _, h, h' => zipD_get (ds := ds) (es := es) (i := i) h h'
theorem zipD_len : ∀ {ds es : List D}, (zipD ds es).length = min ds.length es.length
  | [], _ => by simp [zipD]
  | _ :: _, [] => by simp [zipD]
  | _ :: ds, _ :: es => by simp only [zipD, List.length_cons, zipD_len (ds := ds) (es := es)]; omega
def itZip (f : Sl → MM (List SV)) : Sl → MM (List D) := fun ss => MM.bind (f ss) fun xs => match xs with
  | [x, y] => MM.bind (frz x) fun d => MM.bind (frz y) fun e S => match seqK d, seqK e with
    | some (_, ds), some (_, es) => some (.ok (zipD ds es), S)
    | _, _ => none
  | _ => fun _ => none
theorem fi_zip {e e2 : Expr} {f : Sl → MM (List SV)} {p pos tpos : Pos} {elts : List Expr} {kk : Nat} (hg : Gl X "zip") (hm : X.mg "zip" = none) (ha : FA X W [e, e2] f)
    (hs : starEach [e, e2] X.env = (false, eval e X.env) :: starEach [e2] X.env := by rfl) (hpl : (backTo pos (starEach [e2] X.env)).any (·.1) = false := by rfl) :
    FI X W (.Tuple elts kk tpos) (.Call (.Name "zip" p) [e, e2] [] pos) (itZip f) := by
  obtain ⟨ta, pa, snd⟩ := ha.ex
  refine ⟨_, pi_zipM hg hm pa hs hpl, fun σ ss F as S H R o S' hr s h c => ?_⟩
  refine step (T := ta σ H) (Rl := fun F as vs xs => VsRel X.kw F as vs xs) (fun Q o S' h c => snd σ ss F as S H Q o S' hr s h c) h c ?_
  intro xs S1 F1 as1 H1 vs h1 e1 s1 rv c1
  split at h1
  · rename_i x y
    cases rv with
    | cons rx rr =>
      cases rr with
      | cons ry rr =>
        cases rr
        rename_i v _ w
        rcases bindE h1 with ⟨d, S2, h2, h3⟩ | ⟨d, S2, h2, h3⟩
        · obtain ⟨d', F2, ed, x2, s2, rd⟩ := frz_ok s1 rx h2
          cases ed
          rcases bindE h3 with ⟨e', S3, h4, h5⟩ | ⟨e', S3, h4, h5⟩
          · obtain ⟨d'', F3, ed, x3, s3, re⟩ := frz_ok s2 (ry.mono x2) h4
            cases ed
            split at h5
            · rename_i k ds k' es q1 q2
              cases h5
              obtain ⟨a, us, rfl, sq, ru⟩ := seqK_ok (rd.mono x3.same) q1
              obtain ⟨b, us', rfl, sq', ru'⟩ := seqK_ok re q2
              refine ⟨k, k', a, b, us, us', rfl, sq _ s3.ff, sq' _ s3.ff, c1 F3 as1 H1 (x2.trans x3) s3 _ ⟨fun i H s h => ?_, fun H s => ?_, fun i H x H' d s h q => ?_⟩⟩
              · rw [zipD_len] at h
                have l1 := ru.length
                have l2 := ru'.length
                exact ⟨us, us', us[i], us'[i], sq H s, sq' H s, List.getElem?_eq_getElem (by omega), List.getElem?_eq_getElem (by omega)⟩
              · refine ⟨us, us', sq H s, sq' H s, ?_⟩
                rw [zipD_len, ru.length, ru'.length]
                omega
              · obtain ⟨T, x', y', rfl, hT, rfl, f1, f2⟩ := h
                have hx := f1 us (sq H s)
                have hy := f2 us' (sq' H s)
                have hi : i < min ds.length es.length := by rw [← zipD_len]; exact (List.getElem?_eq_some_iff.mp q).1
                obtain ⟨vx, hvx, rx'⟩ := ru.get (List.getElem?_eq_getElem (by omega : i < ds.length))
                obtain ⟨vy, hvy, ry'⟩ := ru'.get (List.getElem?_eq_getElem (by omega : i < es.length))
                rw [hx] at hvx; cases hvx
                rw [hy] at hvy; cases hvy
                rw [zipD_get (List.getElem?_eq_getElem (by omega : i < ds.length)) (List.getElem?_eq_getElem (by omega : i < es.length))] at q
                cases q
                exact .inr ⟨T, _, _, rfl, hT, rfl, rfl, .cons rx' (.cons ry' .nil)⟩
            · cases h5
          · obtain ⟨d'', F3, ed, x3, s3, re⟩ := frz_ok s2 (ry.mono x2) h4
            cases ed
        · obtain ⟨d'', F3, ed, x3, s3, re⟩ := frz_ok s1 rx h2
          cases ed
  · cases h1
end
end FW

set_option Elab.async false
set_option linter.all false
set_option maxRecDepth 100000
set_option maxHeartbeats 1000000
/-! FW, part I: own ==, !=, str, len, isinstance; calls by names; list(text); joins of what is turned round; what is never done. -/
namespace FW
open PySem PySem.Spec PyProof.Rows L2 FwR
section
variable {X : Cx} {W : WX} {C : String} {fe fs fl : Addr}
/-- an instance of C, standing still -/
def isOwn (C : String) : SV → Bool
  | .sh (.ins C' _ _) => C' = C
  | _ => false
def ownD (C : String) : D → Bool
  | .ins C' _ _ => C' = C
  | d => (tyN d).isSome
def ownTy (C : String) : SV → Bool
  | .sh d => ownD C d
  | _ => false
theorem isOwn_ok {K : KW} {F H : Hp} {as : AS} {S : Store} {v : V} {x : SV} (s : SRel K F as S H) (r : VRel K F as v x) (h : isOwn C x = true) : ∃ a dx fs, v = .ref a ∧ H a = some (.ins (K.cm C) dx fs) := by
  unfold isOwn at h
  split at h
  · rename_i C' ns ds
    have e : C' = C := of_decide_eq_true h
    subst e
    cases r with
    | @ins a dx C' ns vs ds hh hl rr => exact ⟨a, dx, _, rfl, s.ff _ _ hh⟩
  · cases h
theorem tyN_mem {d : D} {n : String} (h : tyN d = some n) : n ∈ (["NoneType", "bool", "int", "str", "list", "tuple"] : List String) := by
  cases d <;> first | (cases h; done) | (cases h; simp)
theorem ownTy_ok {K : KW} {F H : Hp} {as : AS} {S : Store} {v : V} {x : SV} (T : OwnC K.K (K.cm C) fe fs fl) (s : SRel K F as S H) (r : VRel K F as v x) (h : ownTy C x = true) : ∃ t, TyX K.K H v t ∧ PySem.W.notFirst K.K (K.cm C) t = true := by
  unfold ownTy at h
  split at h
  · rename_i d
    unfold ownD at h
    split at h
    · rename_i C' ns ds
      have e : C' = C := of_decide_eq_true h
      subst e
      cases r with
      | @ins a dx C' ns vs ds hh hl rr => exact ⟨_, T.ty (s.ff _ _ hh), notFirst_self _ _⟩
    · cases e : tyN d with
      | none => rw [e] at h; cases h
      | some n => exact ⟨_, tyN_ok (.fz r) s.ff e, T.nf _ (tyN_mem e)⟩
  · cases h
def ownCmp (C : String) (neg : Bool) (ar : Nat) (g : Fn) (x y : SV) : MM SV := fun S => if ar = 2 ∧ isOwn C x = true ∧ ownTy C y = true then (match g [x, y] S with
  | some (.ok (.sh (.bl b)), S1) => some (.ok (.sh (.bl (neg != b))), S1)
  | _ => none) else none
def sOwnCmp (C : String) (neg : Bool) (ar : Nat) (g : Fn) (fa fb : Sl → MM SV) : Sl → MM SV := fun ss => MM.bind (fa ss) fun x => MM.bind (fb ss) fun y => ownCmp C neg ar g x y
theorem ownCmp_ok {neg : Bool} {ar : Nat} {g : Fn} {fa fb : Sl → MM SV} {ta tb : TE} (T : OwnC X.K (X.kw.cm C) fe fs fl)
    (sa : ∀ (σ : L2.St) (ss : Sl) (F : Hp) (as : AS) (S : Store) (H : Hp) (Q : VK) (o : Ou SV) (S' : Store), SlRel X.kw F as σ ss → SRel X.kw F as S H → fa ss S = some (o, S') → Cont X.kw (WE W σ) F as S' o (fun x F' as' H' => ∀ v, VRel X.kw F' as' v x → Q v H') → ta σ H Q)
    (sb : ∀ (σ : L2.St) (ss : Sl) (F : Hp) (as : AS) (S : Store) (H : Hp) (Q : VK) (o : Ou SV) (S' : Store), SlRel X.kw F as σ ss → SRel X.kw F as S H → fb ss S = some (o, S') → Cont X.kw (WE W σ) F as S' o (fun x F' as' H' => ∀ v, VRel X.kw F' as' v x → Q v H') → tb σ H Q)
    (σ : L2.St) (ss : Sl) (F : Hp) (as : AS) (S : Store) (H : Hp) (Q : VK) (o : Ou SV) (S' : Store) (hr : SlRel X.kw F as σ ss) (s : SRel X.kw F as S H) (h : sOwnCmp C neg ar g fa fb ss S = some (o, S'))
    (cn : Cont X.kw (WE W σ) F as S' o (fun x F' as' H' => ∀ v, VRel X.kw F' as' v x → Q v H')) : tOp (rOwn X.K (X.kw.cm C) (spG X.kw ar g) E0 neg) ta tb σ H Q := by
  refine step (T := ta σ H) (Rl := VR X) (fun Q o S' h c => sa σ ss F as S H Q o S' hr s h c) h cn ?_
  intro x S1 F1 as1 H1 v h1 e1 s1 rv c1
  refine step (T := tb σ H1) (Rl := VR X) (fun Q o S' h c => sb σ ss F1 as1 S1 H1 Q o S' (hr.mono e1) s1 h c) h1 c1 ?_
  intro y S2 F2 as2 H2 w h2 e2 s2 rw' c2
  unfold ownCmp at h2
  split at h2
  · rename_i hc
    obtain ⟨h2a, hx, hy⟩ := hc
    split at h2
    · rename_i b S3 hg
      cases h2
      have rx := rv.mono e2
      obtain ⟨a, dx, flds, rfl, ha⟩ := isOwn_ok s2 rx hx
      obtain ⟨t, ty, nf⟩ := ownTy_ok T s2 rw' hy
      refine ⟨a, dx, flds, t, rfl, ha, ty, nf, F2, as2, S2, [x, y], _, _, s2, .cons rx (.cons rw' .nil), h2a.symm, hg, fun F3 as3 H3 e3 s3 z rz => ?_⟩
      exact ⟨b, Rep.bl_of rz, c2 F3 as3 H3 e3 s3 _ (.bl _)⟩
    · cases h2
  · cases h2
theorem fe_ownEq {f : Addr} {fd : FuncData} {ps : List Str} {k : Nat} {ar : Nat} {g : Fn} {a b : Expr} {fa fb : Sl → MM SV} {pos : Pos} (T : OwnC X.K (X.kw.cm C) f fs fl) (G : FnOk X.prog X.w X.K X.mg X.base (L2.CX X.prog X.w) k f fd ps (spG X.kw ar g)) (hr : Room (k + 2) X.A) (hb : Binds X.K fd ps []) (ha : FE X W a fa) (hb' : FE X W b fb) (hm : behindInMarks .Eq b = false) : FE X W (.Compare a [.Eq] [b] pos) (sOwnCmp C false ar g fa fb) := by
  obtain ⟨ta, pa, sa⟩ := ha.ex
  obtain ⟨tb, pb, sb⟩ := hb'.ex
  exact ⟨_, pe_cmpR (op_eqOwn T G hr hb passL) pa pb hm, ownCmp_ok T sa sb⟩
theorem fe_ownNe {f : Addr} {fd : FuncData} {ps : List Str} {k : Nat} {ar : Nat} {g : Fn} {a b : Expr} {fa fb : Sl → MM SV} {pos : Pos} (T : OwnC X.K (X.kw.cm C) f fs fl) (G : FnOk X.prog X.w X.K X.mg X.base (L2.CX X.prog X.w) k f fd ps (spG X.kw ar g)) (hr : Room (k + 2) X.A) (hb : Binds X.K fd ps []) (ha : FE X W a fa) (hb' : FE X W b fb) (hm : behindInMarks .NotEq b = false) : FE X W (.Compare a [.NotEq] [b] pos) (sOwnCmp C true ar g fa fb) := by
  obtain ⟨ta, pa, sa⟩ := ha.ex
  obtain ⟨tb, pb, sb⟩ := hb'.ex
  exact ⟨_, pe_cmpR (op_neOwn T G hr hb passL) pa pb hm, ownCmp_ok T sa sb⟩
theorem ft_own {neg : Bool} {op : CmpOp} {ar : Nat} {g : Fn} {a b : Expr} {fa fb : Sl → MM SV} {pos : Pos} (T : OwnC X.K (X.kw.cm C) fe fs fl) (ho : OpR X (compareOp op) (rOwn X.K (X.kw.cm C) (spG X.kw ar g) E0 neg)) (ha : FE X W a fa) (hb' : FE X W b fb) (hm : behindInMarks op b = false) : FT X W (.Compare a [op] [b] pos) (sB (sOwnCmp C neg ar g fa fb)) := by
  obtain ⟨ta, pa, sa⟩ := ha.ex
  obtain ⟨tb, pb, sb⟩ := hb'.ex
  refine ⟨_, pt_cmpR ho pa pb hm, fun σ ss F as S H Q o S' hr s h c => ?_⟩
  refine step (T := tOp _ ta tb σ H) (Rl := fun F' as' v x => VRel X.kw F' as' v x) (fun Q o S' h c => ownCmp_ok T sa sb σ ss F as S H Q o S' hr s h c) h c ?_
  intro x S1 F1 as1 H1 v h1 e1 s1 rv c1
  exact asB_ok s1 rv h1 c1
theorem ft_ownEq {f : Addr} {fd : FuncData} {ps : List Str} {k : Nat} {ar : Nat} {g : Fn} {a b : Expr} {fa fb : Sl → MM SV} {pos : Pos} (T : OwnC X.K (X.kw.cm C) f fs fl) (G : FnOk X.prog X.w X.K X.mg X.base (L2.CX X.prog X.w) k f fd ps (spG X.kw ar g)) (hr : Room (k + 2) X.A) (hb : Binds X.K fd ps []) (ha : FE X W a fa) (hb' : FE X W b fb) (hm : behindInMarks .Eq b = false) : FT X W (.Compare a [.Eq] [b] pos) (sB (sOwnCmp C false ar g fa fb)) :=
  ft_own T (op_eqOwn T G hr hb passL) ha hb' hm
theorem ft_ownNe {f : Addr} {fd : FuncData} {ps : List Str} {k : Nat} {ar : Nat} {g : Fn} {a b : Expr} {fa fb : Sl → MM SV} {pos : Pos} (T : OwnC X.K (X.kw.cm C) f fs fl) (G : FnOk X.prog X.w X.K X.mg X.base (L2.CX X.prog X.w) k f fd ps (spG X.kw ar g)) (hr : Room (k + 2) X.A) (hb : Binds X.K fd ps []) (ha : FE X W a fa) (hb' : FE X W b fb) (hm : behindInMarks .NotEq b = false) : FT X W (.Compare a [.NotEq] [b] pos) (sB (sOwnCmp C true ar g fa fb)) :=
  ft_own T (op_neOwn T G hr hb passL) ha hb' hm

/-! ### str(x), len(x) -/
def askOwn (C : String) (ar : Nat) (g : Fn) (ok : D → Bool) (xs : List SV) : MM SV := fun S => match xs with
  | [x] => if ar = 1 ∧ isOwn C x = true then (match g [x] S with
    | some (.ok (.sh d), S1) => if ok d = true then some (.ok (.sh d), S1) else none
    | _ => none) else none
  | _ => none
def isStrD : D → Bool
  | .str _ => true
  | _ => false
def isLenD : D → Bool
  | .int n => decide (0 ≤ n) && decide (n < 2 ^ 63)
  | _ => false
def sStrOwn (C : String) (ar : Nat) (g : Fn) (fa : Sl → MM (List SV)) : Sl → MM SV := fun ss => MM.bind (fa ss) (askOwn C ar g isStrD)
def sLenOwn (C : String) (ar : Nat) (g : Fn) (fa : Sl → MM (List SV)) : Sl → MM SV := fun ss => MM.bind (fa ss) (askOwn C ar g isLenD)
theorem askOwn_inv {ar : Nat} {g : Fn} {ok : D → Bool} {xs : List SV} {S S' : Store} {o : Ou SV} (h : askOwn C ar g ok xs S = some (o, S')) : ∃ x d, xs = [x] ∧ ar = 1 ∧ isOwn C x = true ∧ g [x] S = some (.ok (.sh d), S') ∧ ok d = true ∧ o = .ok (.sh d) := by
  unfold askOwn at h
  split at h
  · rename_i x
    split at h
    · rename_i hc
      split at h
      · rename_i d S1 hg
        split at h
        · rename_i hk
          cases h
          exact ⟨x, d, rfl, hc.1, hc.2, hg, hk, rfl⟩
        · cases h
      · cases h
    · cases h
  · cases h
theorem fe_strOwn {f : Addr} {fd : FuncData} {ps : List Str} {k : Nat} {ar : Nat} {g : Fn} {e : Expr} {fa : Sl → MM (List SV)} {p pos : Pos} (T : OwnC X.K (X.kw.cm C) fe f fl) (G : FnOk X.prog X.w X.K X.mg X.base (L2.CX X.prog X.w) k f fd ps (spG X.kw ar g)) (hr : Room (k + 2) X.A) (hb : Binds X.K fd ps []) (hg : Gl X "str") (hm : X.mg "str" = none) (ha : FA X W [e] fa)
    (he : starEach [e] X.env = (false, eval e X.env) :: starEach [] X.env := by rfl) (hpl : (backTo pos (starEach [] X.env)).any (·.1) = false := by rfl) : FE X W (.Call (.Name "str" p) [e] [] pos) (sStrOwn C ar g fa) := by
  obtain ⟨ta, pa, sa⟩ := ha.ex
  refine ⟨_, pe_callTy (call_strOwn T G hr hb passL) hg hm PyProof.Rows.boot_str pa (by decide) (by decide) he hpl, fun σ ss F as S H Q o S' hr s h c => ?_⟩
  refine step (T := ta σ H) (Rl := fun F' as' v x => VsRel X.kw F' as' v x) (fun Q o S' h c => sa σ ss F as S H Q o S' hr s h c) h c ?_
  intro xs S1 F1 as1 H1 vs h1 e1 s1 rv c1
  obtain ⟨x, d, rfl, ea, hx, hg, hk, rfl⟩ := askOwn_inv h1
  cases rv with
  | cons r rr =>
    cases rr
    obtain ⟨a, dx, flds, rfl, ha⟩ := isOwn_ok s1 r hx
    refine ⟨a, dx, flds, rfl, ha, F1, as1, S1, [x], _, _, s1, .cons r .nil, ea.symm, hg, fun F3 as3 H3 e3 s3 z rz => ?_⟩
    cases d <;> first | (cases hk; done) | skip
    rename_i y
    exact ⟨y, Rep.str_of rz, c1 F3 as3 H3 e3 s3 _ (.str _)⟩
theorem fe_lenOwn {f : Addr} {fd : FuncData} {ps : List Str} {k : Nat} {ar : Nat} {g : Fn} {e : Expr} {fa : Sl → MM (List SV)} {p pos : Pos} (T : OwnC X.K (X.kw.cm C) fe fs f) (G : FnOk X.prog X.w X.K X.mg X.base (L2.CX X.prog X.w) k f fd ps (spG X.kw ar g)) (hr : Room (k + 2) X.A) (hb : Binds X.K fd ps []) (hg : Gl X "len") (hm : X.mg "len" = none) (ha : FA X W [e] fa)
    (he : starEach [e] X.env = (false, eval e X.env) :: starEach [] X.env := by rfl) (hpl : (backTo pos (starEach [] X.env)).any (·.1) = false := by rfl) : FE X W (.Call (.Name "len" p) [e] [] pos) (sLenOwn C ar g fa) := by
  obtain ⟨ta, pa, sa⟩ := ha.ex
  refine ⟨_, pe_callB (call_lenOwn T G hr hb passL) hg hm boot_len pa (by decide) (by decide) he hpl, fun σ ss F as S H Q o S' hr s h c => ?_⟩
  refine step (T := ta σ H) (Rl := fun F' as' v x => VsRel X.kw F' as' v x) (fun Q o S' h c => sa σ ss F as S H Q o S' hr s h c) h c ?_
  intro xs S1 F1 as1 H1 vs h1 e1 s1 rv c1
  obtain ⟨x, d, rfl, ea, hx, hg, hk, rfl⟩ := askOwn_inv h1
  cases rv with
  | cons r rr =>
    cases rr
    obtain ⟨a, dx, flds, rfl, ha⟩ := isOwn_ok s1 r hx
    refine ⟨a, dx, flds, rfl, ha, F1, as1, S1, [x], _, _, s1, .cons r .nil, ea.symm, hg, fun F3 as3 H3 e3 s3 z rz => ?_⟩
    cases d <;> first | (cases hk; done) | skip
    rename_i y
    have hk' : (decide (0 ≤ y) && decide (y < 2 ^ 63)) = true := hk
    rw [Bool.and_eq_true] at hk'
    exact ⟨y, Rep.int_of rz, of_decide_eq_true hk'.1, of_decide_eq_true hk'.2, c1 F3 as3 H3 e3 s3 _ (.int _)⟩

/-! ### isinstance(x, C) -/
def dIsiC (C : String) : D → D → Option An := fun d t => match t with
  | .cls c => if c = C then (if ownD C d = true then some (.val (.bl (match d with | .ins _ _ _ => true | _ => false))) else none) else none
  | _ => none
theorem snd_isiC {K : KW} (T : OwnC K.K (K.cm C) fe fs fl) : SndN K (rIsi K.K) (on2 (dIsiC C)) := fun F H xs ds an Q s rx hg q => by
  unfold on2 at hg
  split at hg
  · rename_i d t
    obtain ⟨v, w, rfl, r1, r2⟩ := pair2 rx
    unfold dIsiC at hg
    split at hg
    · rename_i c
      split at hg
      · rename_i ec
        subst ec
        have e2 := r2.cls
        subst e2
        split at hg
        · rename_i ho
          unfold ownD at ho
          split at ho
          · rename_i C' ns es
            have e : C' = c := of_decide_eq_true ho
            subst e
            cases hg
            obtain ⟨a, dx, vs, rfl, ha, _⟩ := r1.isIns s
            exact ⟨_, _, _, _, true, rfl, .own _, T.ty ha, T.k1, q _ (.bl _)⟩
          · rename_i hni
            cases e : tyN d with
            | none => rw [e] at ho; cases ho
            | some n =>
              have hb : an = .val (.bl false) := by
                cases hg
                cases d <;> first | rfl | exact absurd rfl (hni _ _ _)
              subst hb
              exact ⟨_, _, _, _, false, rfl, .own _, tyN_ok r1 s e, T.k0 _ (tyN_mem e), q _ (.bl _)⟩
        · cases hg
      · cases hg
    · cases hg
  · cases hg
theorem fe_isiC {x t : Expr} {fa : Sl → MM (List SV)} {p pos : Pos} (T : OwnC X.K (X.kw.cm C) fe fs fl) (hg : Gl X "isinstance") (hm : X.mg "isinstance" = none) (ha : FA X W [x, t] fa)
    (he : starEach [x, t] X.env = (false, eval x X.env) :: starEach [t] X.env := by rfl) (hpl : (backTo pos (starEach [t] X.env)).any (·.1) = false := by rfl) : FE X W (.Call (.Name "isinstance" p) [x, t] [] pos) (bN false (on2 (dIsiC C)) fa) :=
  fe_callB false call_isi (snd_isiC T) hg hm boot_isinstance ha (by decide) (by decide) he hpl

/-! ### f(k = v, ..) -/
structure FK (X : Cx) (W : WX) (kws : List Keyword) (f : Sl → MM (List SV)) : Prop where
  ex : ∃ te, PK X kws te ∧ ∀ (σ : L2.St) (ss : Sl) (F : Hp) (as : AS) (S : Store) (H : Hp) (Q : List V → Hp → Prop) (o : Ou (List SV)) (S' : Store), SlRel X.kw F as σ ss → SRel X.kw F as S H → f ss S = some (o, S') →
    Cont X.kw (WE W σ) F as S' o (fun x F' as' H' => ∀ vs, VsRel X.kw F' as' vs x → Q vs H') → te σ H Q
theorem fk_of {kws : List Keyword} {es : List Expr} {f : Sl → MM (List SV)} (ha : FA X W es f) (h : ∀ t, PA X es t → PK X kws t) : FK X W kws f := by
  obtain ⟨t, p, s⟩ := ha.ex
  exact ⟨t, h t p, s⟩
theorem fk_nil : FK X W [] (fun _ S => some (.ok [], S)) := ⟨_, pk_nil, fun σ ss F as S H Q o S' hr s h c => by cases h; exact c F as H (Ext.refl _ _) s [] .nil⟩
def kCons (f : Sl → MM SV) (fs : Sl → MM (List SV)) : Sl → MM (List SV) := fun ss => MM.bind (f ss) fun x => MM.bind (fs ss) fun xs S => some (.ok (x :: xs), S)
theorem fk_cons {nm : Option Str} {e : Expr} {kpos : Pos} {kws : List Keyword} {f : Sl → MM SV} {fs : Sl → MM (List SV)} (he : FE X W e f) (hr : FK X W kws fs) : FK X W (⟨nm, e, kpos⟩ :: kws) (kCons f fs) := by
  obtain ⟨te, pe, se⟩ := he.ex
  obtain ⟨tk, pk, sk⟩ := hr.ex
  refine ⟨_, pk_cons pe pk, fun σ ss F as S H Q o S' hr s h c => ?_⟩
  refine step (T := te σ H) (Rl := VR X) (fun Q o S' h c => se σ ss F as S H Q o S' hr s h c) h c ?_
  intro x S1 F1 as1 H1 v h1 e1 s1 rv c1
  refine step (T := tk σ H1) (Rl := fun F' as' v x => VsRel X.kw F' as' v x) (fun Q o S' h c => sk σ ss F1 as1 S1 H1 Q o S' (hr.mono e1) s1 h c) h1 c1 ?_
  intro xs S2 F2 as2 H2 vs h2 e2 s2 rvs c2
  cases h2
  exact c2 F2 as2 H2 (Ext.refl _ _) s2 _ (.cons (rv.mono e2) rvs)
/-- the values in the parameters' order -/
def permS {α : Type} (ix : List Nat) (xs : List α) : List α := ix.filterMap fun i => xs[i]?
theorem permS_rel {α β : Type} {R : α → β → Prop} {xs : List α} {ys : List β} (r : Paired R xs ys) : ∀ ix : List Nat, Paired R (permS ix xs) (permS ix ys)
  | [] => .nil
  | i :: ix => by
    have ih := permS_rel r ix
    unfold permS at ih ⊢
    have hl := Paired.length r
    have two : (xs[i]? = none ∧ ys[i]? = none) ∨ ∃ x y, xs[i]? = some x ∧ ys[i]? = some y ∧ R x y := by
      clear ih
      induction r generalizing i with
      | nil => simp
      | @cons a b l1 l2 q t ih =>
        cases i with
        | zero => exact .inr ⟨a, b, rfl, rfl, q⟩
        | succ i => simpa using ih i (by simpa using hl)
    rcases two with ⟨h1, h2⟩ | ⟨x, y, h1, h2, q⟩
    · rw [List.filterMap_cons_none h1, List.filterMap_cons_none h2]; exact ih
    · rw [List.filterMap_cons_some h1, List.filterMap_cons_some h2]; exact .cons q ih
def sCallK (ar : Nat) (ix : List Nat) (g : Fn) (fa : Sl → MM (List SV)) : Sl → MM SV := fun ss => MM.bind (fa ss) fun xs S => if (permS ix xs).length = ar then g (permS ix xs) S else none
theorem fe_callK0 {f : Addr} {fd : FuncData} {ps ks : List Str} {k : Nat} {ar : Nat} {g : Fn} {ix : List Nat} {gv : List Value → List Value → List Value} {gV : List V → List V → List V} {x : Str} {p pos : Pos} {kws : List Keyword} (hgV : ∀ zs, gV [] zs = permS ix zs) {fa : Sl → MM (List SV)} (hx : XOk X W) (G : FnOk X.prog X.w X.K X.mg X.base (L2.CX X.prog X.w) k f fd ps (spG X.kw ar g)) (hr : Room k X.A) (hg : Gl X x) (hm : X.mg x = some (.ref f)) (hk : PySem.W.keepIn X.K (.ref f) = true)
    (hb : KBinds X.K fd ps ks gv gV) (hkw : FK X W kws fa) (hall : (backToKw pos (keywordEach kws X.env)).all (·.1.isSome) = true := by rfl) (hks : (backToKw pos (keywordEach kws X.env)).filterMap (·.1) = ks := by rfl)
    (hdb : (x == ("__debug__" : Str)) = false := by decide) (hpl : ((backTo pos (starEach [] X.env)).any (·.1) || (backToKw pos (keywordEach kws X.env)).any (·.1.isNone)) = false := by rfl) : FE X W (.Call (.Name x p) [] kws pos) (sCallK ar ix g fa) := by
  obtain ⟨tk, pk, sk⟩ := hkw.ex
  refine ⟨_, pe_callK0 G hr hg hm hk hb hx pk hall hks hdb hpl, fun σ ss F as S H Q o S' hr s h c => ?_⟩
  refine step (T := tk σ H) (Rl := fun F' as' v x => VsRel X.kw F' as' v x) (fun Q o S' h c => sk σ ss F as S H Q o S' hr s h c) h c ?_
  intro xs S1 F1 as1 H1 vs h1 e1 s1 rv c1
  split at h1
  · rename_i hl
    exact ⟨F1, as1, S1, _, o, S', s1, by rw [hgV]; exact permS_rel rv ix, hl, h1, c1⟩
  · cases h1

/-! ### sep.join(reversed(xs)) -/
def dJoinR : D → D → Option An
  | .str x, d => (lstD d).bind fun ds => (strsD ds).bind fun ys => if (ys.map (·.length)).sum + ys.length * x.length ≤ 16777216 then some (.val (.str (Txt.join x ys.reverse))) else none
  | _, _ => none
theorem fe_joinRev {o e : Expr} {fo fa : Sl → MM SV} {apos pos p pos2 : Pos} (hc : X.calm = true) (ho : FE X W o fo) (hg : Gl X "reversed") (hm : X.mg "reversed" = none) (ha : FE X W e fa)
    (hs1 : starEach [.Call (.Name "reversed" p) [e] [] pos2] X.env = [(false, eval (.Call (.Name "reversed" p) [e] [] pos2) X.env)] := by rfl)
    (hs : starEach [e] X.env = (false, eval e X.env) :: starEach [] X.env := by rfl)
    (hbase : attributeBase o "join" X.env (eval o X.env) = eval o X.env := by rfl) (hline : (apos.endLine == pos.line) = true := by rfl) :
    FE X W (.Call (.Attribute o "join" apos) [.Call (.Name "reversed" p) [e] [] pos2] [] pos) (fun ss => MM.bind (fo ss) fun x S => match x with
      | .sh (.str z) => MM.bind (fa ss) (fun y S => s2 false dJoinR (.sh (.str z)) y S) S
      | _ => none) := by
  obtain ⟨to, po, so⟩ := ho.ex
  obtain ⟨ta, pa, sa⟩ := ha.ex
  refine ⟨_, pe_joinRev hc po hg hm pa hs1 hs hbase hline, fun σ ss F as S H Q o S' hr s h c => ?_⟩
  refine step (T := to σ H) (Rl := VR X) (fun Q o S' h c => so σ ss F as S H Q o S' hr s h c) h c ?_
  intro x S1 F1 as1 H1 v h1 e1 s1 rv c1
  split at h1
  · rename_i z
    have ev := Rep.str_of rv
    refine ⟨⟨z, ev⟩, ?_⟩
    refine step (T := ta σ H1) (Rl := VR X) (fun Q o S' h c => sa σ ss F1 as1 S1 H1 Q o S' (hr.mono e1) s1 h c) h1 c1 ?_
    intro y S2 F2 as2 H2 w h2 e2 s2' rw' c2
    refine s2_ok (r := fun a y H Q => ∃ (x : Str) (q : Addr) (xs : List V) (ys : List Str), a = .str x ∧ y = .ref q ∧ SqL X.K H q xs ∧ xs = ys.map V.str ∧ (ys.map (·.length)).sum + ys.length * x.length ≤ 16777216 ∧ Q (.str (Txt.join x ys.reverse)) H) (fun F H x y d e an Q s rx ry hg q => ?_) s2' (rv.mono e2) rw' h2 c2
    unfold dJoinR at hg
    split at hg
    · rename_i zz
      cases h1 : lstD e with
      | none => rw [h1] at hg; cases hg
      | some es =>
        rw [h1] at hg
        cases h2 : strsD es with
        | none => simp [h2] at hg
        | some ns =>
          simp only [h2, Option.bind_some] at hg
          split at hg
          · rename_i hl
            cases hg
            obtain ⟨a, vs, rfl, hq, rr⟩ := ry.lstD s h1
            have := strsD_eq h2
            subst this
            exact ⟨zz, a, vs, ns, rx.str, rfl, hq, RepL.of_strs rr, hl, q _ (.str _)⟩
          · cases hg
    · cases hg
  · cases h1

/-! ### what is never done -/
theorem fs_never {st : Stmt} : FS X W st (fun _ _ => none) := ⟨fun _ _ _ => False, ⟨fun _ _ _ _ _ _ h => h.elim⟩, fun σ ss F as S H Dd o S' hr s h c => by cases h⟩
end
end FW

set_option Elab.async false
set_option linter.all false
set_option maxRecDepth 100000
set_option maxHeartbeats 1000000
/-! FW, part K: built-ins in short. -/
namespace FW
open PySem PySem.Spec PyProof.Rows L2 FwR
section
variable {X : Cx} {W : WX} {fa : Sl → MM (List SV)} {e e2 : Expr} {p pos : Pos}
theorem fe_len (hg : Gl X "len") (hm : X.mg "len" = none) (ha : FA X W [e] fa) (he : starEach [e] X.env = (false, eval e X.env) :: starEach [] X.env := by rfl) (hpl : (backTo pos (starEach [] X.env)).any (·.1) = false := by rfl) : FE X W (.Call (.Name "len" p) [e] [] pos) (bN false (on1 dLen) fa) := fe_callB false call_len snd_len hg hm boot_len ha (by decide) (by decide) he hpl
theorem fe_int1 (hg : Gl X "int") (hm : X.mg "int" = none) (ha : FA X W [e] fa) (he : starEach [e] X.env = (false, eval e X.env) :: starEach [] X.env := by rfl) (hpl : (backTo pos (starEach [] X.env)).any (·.1) = false := by rfl) : FE X W (.Call (.Name "int" p) [e] [] pos) (bN false (on1 dInt) fa) := fe_callTy false call_int1 snd_int hg hm PyProof.Rows.boot_int ha (by decide) (by decide) he hpl
theorem fe_max (hg : Gl X "max") (hm : X.mg "max" = none) (ha : FA X W [e] fa) (hc : X.calm = true := by rfl) (he : starEach [e] X.env = (false, eval e X.env) :: starEach [] X.env := by rfl) (hpl : (backTo pos (starEach [] X.env)).any (·.1) = false := by rfl) : FE X W (.Call (.Name "max" p) [e] [] pos) (bN false (on1 dMax) fa) := fe_callB false (cr_max hc) snd_max hg hm PyProof.Rows.boot_max ha (by decide) (by decide) he hpl
theorem fe_all (hg : Gl X "all") (hm : X.mg "all" = none) (ha : FA X W [e] fa) (hc : X.calm = true := by rfl) (he : starEach [e] X.env = (false, eval e X.env) :: starEach [] X.env := by rfl) (hpl : (backTo pos (starEach [] X.env)).any (·.1) = false := by rfl) : FE X W (.Call (.Name "all" p) [e] [] pos) (bN false (on1 dAll) fa) := fe_callB false (cr_all hc) snd_all hg hm PyProof.Rows.boot_all ha (by decide) (by decide) he hpl
theorem fe_divmod (hg : Gl X "divmod") (hm : X.mg "divmod" = none) (ha : FA X W [e, e2] fa) (he : starEach [e, e2] X.env = (false, eval e X.env) :: starEach [e2] X.env := by rfl) (hpl : (backTo pos (starEach [e2] X.env)).any (·.1) = false := by rfl) : FE X W (.Call (.Name "divmod" p) [e, e2] [] pos) (bN false (on2 dDivmod) fa) := fe_callB false call_divmod snd_divmod hg hm PyProof.Rows.boot_divmod ha (by decide) (by decide) he hpl
theorem fe_sorted (hg : Gl X "sorted") (hm : X.mg "sorted" = none) (ha : FA X W [e] fa) (hc : X.calm = true := by rfl) (he : starEach [e] X.env = (false, eval e X.env) :: starEach [] X.env := by rfl) (hpl : (backTo pos (starEach [] X.env)).any (·.1) = false := by rfl) : FE X W (.Call (.Name "sorted" p) [e] [] pos) (bN false (on1 dSort) fa) := fe_callB false (callR_or (FwS.cr_sortSet hc) cr_sortedS) snd_sort hg hm PyProof.Rows.boot_sorted ha (by decide) (by decide) he hpl
theorem fe_tuple (hg : Gl X "tuple") (hm : X.mg "tuple" = none) (ha : FA X W [e] fa) (he : starEach [e] X.env = (false, eval e X.env) :: starEach [] X.env := by rfl) (hpl : (backTo pos (starEach [] X.env)).any (·.1) = false := by rfl) : FE X W (.Call (.Name "tuple" p) [e] [] pos) (bN false (on1 dTupOf) fa) := fe_callTy false call_tuple_of snd_tupOf hg hm PyProof.Rows.boot_tuple ha (by decide) (by decide) he hpl
theorem fe_list (c : Bool) (hg : Gl X "list") (hm : X.mg "list" = none) (ha : FA X W [e] fa) (he : starEach [e] X.env = (false, eval e X.env) :: starEach [] X.env := by rfl) (hpl : (backTo pos (starEach [] X.env)).any (·.1) = false := by rfl) : FE X W (.Call (.Name "list" p) [e] [] pos) (bN c (on1 dListOf) fa) := fe_callTy c call_list_of snd_listOf hg hm PyProof.Rows.boot_list ha (by decide) (by decide) he hpl
theorem fe_setof (hg : Gl X "set") (hm : X.mg "set" = none) (ha : FA X W [e] fa) (hc : X.calm = true := by rfl) (he : starEach [e] X.env = (false, eval e X.env) :: starEach [] X.env := by rfl) (hpl : (backTo pos (starEach [] X.env)).any (·.1) = false := by rfl) : FE X W (.Call (.Name "set" p) [e] [] pos) (bN false (on1 dSetOf) fa) := fe_callTy false (FwS.cr_setOf hc) snd_setOf hg hm PyProof.Rows.boot_set ha (by decide) (by decide) he hpl
def dListS : D → Option An
  | .str z => if z.length ≤ sizeLine then some (.lst (signs z)) else none
  | _ => none
theorem snd_listS {K : KW} : SndN K (fun xs H Q => ∃ z, xs = [.str z] ∧ z.length ≤ sizeLine ∧ ∀ l, H l = none → Q (.ref l) (upd H l (.lst (z.cps.toList.map fun c => V.str ⟨#[c]⟩)))) (on1 dListS) := fun F H xs ds an Q s rx hg q => by
  unfold on1 at hg
  split at hg
  · obtain ⟨v, rfl, r⟩ := pair1 rx
    unfold dListS at hg
    split at hg
    · rename_i z
      split at hg
      · rename_i hz
        cases hg
        refine ⟨z, by rw [r.str], hz, fun l hl => q l _ hl ?_⟩
        unfold signs
        induction z.cps.toList with
        | nil => exact .nil
        | cons a t ih => exact .cons (.str _) ih
      · cases hg
    · cases hg
  · cases hg
theorem fe_listS (hc : X.calm = true) (hg : Gl X "list") (hm : X.mg "list" = none) (ha : FA X W [e] fa) (he : starEach [e] X.env = (false, eval e X.env) :: starEach [] X.env := by rfl) (hpl : (backTo pos (starEach [] X.env)).any (·.1) = false := by rfl) : FE X W (.Call (.Name "list" p) [e] [] pos) (bN false (on1 dListS) fa) := fe_callTy false (call_listText hc) snd_listS hg hm PyProof.Rows.boot_list ha (by decide) (by decide) he hpl
variable {o : Expr} {f : Sl → MM SV} {apos : Pos}
theorem fe_append (ho : FE X W o f) (ha : FA X W [e] fa) (hbase : attributeBase o "append" X.env (eval o X.env) = eval o X.env := by rfl)
    (hfew : ((backTo pos (starEach [e] X.env)).all (fun x => !x.1) && (backToKw pos (keywordEach [] X.env)).all (fun x => x.1.isSome) && decide ([e].length + ([] : List Keyword).length + (if ([] : List Keyword).isEmpty then 0 else 1) < 30)) = true := by rfl)
    (hline : (apos.endLine == pos.line) = true := by rfl) (hst : starEach [e] X.env = (false, eval e X.env) :: starEach [] X.env := by rfl) (hplain : (backTo pos (starEach [] X.env)).any (·.1) = false := by rfl) : FE X W (.Call (.Attribute o "append" apos) [e] [] pos) (sMut uAppend f fa) := fe_bmU F.slot_list_append F.type_list_append mt_append snd_append ho ha hbase hfew hline hst hplain
theorem fe_extend (ho : FE X W o f) (ha : FA X W [e] fa) (hbase : attributeBase o "extend" X.env (eval o X.env) = eval o X.env := by rfl)
    (hfew : ((backTo pos (starEach [e] X.env)).all (fun x => !x.1) && (backToKw pos (keywordEach [] X.env)).all (fun x => x.1.isSome) && decide ([e].length + ([] : List Keyword).length + (if ([] : List Keyword).isEmpty then 0 else 1) < 30)) = true := by rfl)
    (hline : (apos.endLine == pos.line) = true := by rfl) (hst : starEach [e] X.env = (false, eval e X.env) :: starEach [] X.env := by rfl) (hplain : (backTo pos (starEach [] X.env)).any (·.1) = false := by rfl) : FE X W (.Call (.Attribute o "extend" apos) [e] [] pos) (sMut uExtend f fa) := fe_bmU F.slot_list_extend F.type_list_extend mt_extend snd_extend ho ha hbase hfew hline hst hplain
theorem fe_pop (ho : FE X W o f) (hbase : attributeBase o "pop" X.env (eval o X.env) = eval o X.env := by rfl) (hline : (apos.endLine == pos.line) = true := by rfl) : FE X W (.Call (.Attribute o "pop" apos) [] [] pos) (sMut uPop f aNil) := fe_bmU0 F.slot_list_pop F.type_list_pop mt_pop snd_pop ho hbase hline
def sJoinRev (fo fa : Sl → MM SV) : Sl → MM SV := fun ss => MM.bind (fo ss) fun x S => match x with
      | .sh (.str z) => MM.bind (fa ss) (fun y S => s2 false dJoinR (.sh (.str z)) y S) S
      | _ => none
end
/-- all by their names -/
def kG {α : Type} (ix : List Nat) : List α → List α → List α
  | [], ws => permS ix ws
  | _ :: _, _ => []
theorem kbinds_of {K : PySem.W.Frag} {x qual : Str} {st : Stmt} {f : Addr} {fd : FuncData} (F : Fun K x qual st f fd) {ps ks : List Str} {ix : List Nat} (hps : ps ≠ [])
    (h : ∀ (kV doc pm : Value) (an : Option Addr) (cdv ct : Value) (ws : List Value), (permS ix ws).length = ps.length → bindArgs (PySem.W.fnOf x qual (defArgs st) (defBody st) (defScope st) .none kV doc pm an cdv ct) ⟨[], ks.zip ws⟩ = pure (ps.zip (permS ix ws))) : KBinds K fd ps ks (kG ix) (kG ix) := by
  obtain ⟨oc, od, kV, doc, pm, an, cdv, ct, osl, rfl, lk, hcd⟩ := F.ex
  refine ⟨fun s us ws hK hl => ?_, fun {vs us zs ws} r rz => ?_⟩
  · cases us with
    | nil => exact .of_eq (h kV doc pm an cdv ct ws hl)
    | cons u us =>
      cases ps with
      | nil => exact absurd rfl hps
      | cons p ps => cases hl
  · cases r with
    | nil => exact permS_rel rz ix
    | cons a r => exact .nil
end FW

set_option Elab.async false
set_option linter.all false
set_option maxRecDepth 100000
set_option maxHeartbeats 1000000
/-! FW, part M: how the readings are run (rules for simp). -/
namespace FW
open PySem PySem.Spec PyProof.Rows L2 FwR
section
variable {α β : Type} {f : MM α} {g : α → MM β} {S : Store} {ss : Sl} {a b : SM} {fa fb fc : Sl → MM SV} {t : Sl → MM Bool} {ga : Sl → MM (List SV)} {x y : SV} {xs : List SV} {c : Bool}
@[simp] theorem ev_bind : MM.bind f g S = match f S with
  | some (.ok x, S') => g x S'
  | some (.er x, S') => some (.er x, S')
  | none => none := rfl
@[simp] theorem ev_ret {x : α} : FW.ret x S = some (.ok x, S) := rfl
@[simp] theorem ev_sC {d : D} : sC d ss S = some (.ok (.sh d), S) := rfl
@[simp] theorem ev_var {i : Nat} : sVar i ss S = match ss[i]? with
  | some (some x) => some (.ok x, S)
  | _ => none := rfl
@[simp] theorem ev_seq : gSeq a b ss S = match a ss S with
  | some (.nx ρ, S1) => b ρ S1
  | q => q := by
  unfold gSeq
  rcases a ss S with _ | ⟨_ | _ | _ | _ | _, _⟩ <;> rfl
@[simp] theorem ev_nx : gNx ss S = some (.nx ss, S) := rfl
@[simp] theorem ev_exS {f : Sl → MM α} {k : α → SM} : exS f k ss S = match f ss S with
  | some (.ok x, S1) => k x ss S1
  | some (.er x, S1) => some (.er x ss, S1)
  | none => none := rfl
@[simp] theorem ev_gEx : gEx fa ss S = exS fa (fun _ => gNx) ss S := rfl
@[simp] theorem ev_gRet : gRet fa ss S = exS fa (fun x _ S => some (.rt x, S)) ss S := rfl
@[simp] theorem ev_gRetN : gRetN ss S = some (.rt (.sh .non), S) := rfl
@[simp] theorem ev_gIf : gIf t a b ss S = exS t (fun c => if c = true then a else b) ss S := rfl
@[simp] theorem ev_gAs {g : GM} : gAs fa g ss S = exS fa (fun x ss S => match g x ss S with
  | some (ρ, S1) => some (.nx ρ, S1)
  | none => none) ss S := rfl
@[simp] theorem ev_tgN {i : Nat} : tgN i x ss S = some (ss.set i (some x), S) := rfl
@[simp] theorem ev_b2 {h : D → D → Option An} : b2 c h fa fb ss S = MM.bind (fa ss) (fun x => MM.bind (fb ss) fun y => s2 c h x y) S := rfl
@[simp] theorem ev_s2 {h : D → D → Option An} : s2 c h x y S = match lookD S x, lookD S y with
  | some d, some e => match h d e with
    | some an => an.go c S
    | none => none
  | _, _ => none := rfl
@[simp] theorem ev_bN {h : List D → Option An} : bN c h ga ss S = MM.bind (ga ss) (fun xs => sN c h xs) S := rfl
@[simp] theorem ev_sN {h : List D → Option An} : sN c h xs S = match lookA S xs with
  | some ds => match h ds with
    | some an => an.go c S
    | none => none
  | none => none := rfl
@[simp] theorem ev_look {d : D} : lookD S (.sh d) = some d := rfl
@[simp] theorem ev_lookA0 : lookA S [] = some [] := rfl
@[simp] theorem ev_lookA1 : lookA S (x :: xs) = match lookD S x, lookA S xs with
    | some d, some ds => some (d :: ds)
    | _, _ => none := rfl
@[simp] theorem ev_val {d : D} : (An.val d).go c S = some (.ok (.sh d), S) := rfl
@[simp] theorem ev_tup {ds : List D} : (An.tup ds).go c S = some (.ok (.sh (.tup ds)), S) := rfl
@[simp] theorem ev_set {ds : List Str} : (An.set ds).go c S = some (.ok (.sh (.set ds)), S) := rfl
@[simp] theorem ev_lstF {ds : List D} : (An.lst ds).go false S = some (.ok (.sh (.lst ds)), S) := rfl
@[simp] theorem ev_lstT {ds : List D} : (An.lst ds).go true S = some (.ok (.cl S.length), S ++ [.lst (ds.map SV.sh)]) := rfl
@[simp] theorem ev_sB : sB fa ss S = MM.bind (fa ss) asB S := rfl
@[simp] theorem ev_asB {b : Bool} : asB (.sh (.bl b)) S = some (.ok b, S) := rfl
@[simp] theorem ev_bAnd {f k : Sl → MM Bool} : bAnd f k ss S = MM.bind (f ss) (fun c => if c = true then k ss else FW.ret false) S := rfl
@[simp] theorem ev_bOr {f k : Sl → MM Bool} : bOr f k ss S = MM.bind (f ss) (fun c => if c = true then FW.ret true else k ss) S := rfl
@[simp] theorem ev_bNot {f : Sl → MM Bool} : bNot f ss S = MM.bind (f ss) (fun c => FW.ret (!c)) S := rfl
@[simp] theorem ev_vAnd : vAnd fa fb ss S = MM.bind (sB fa ss) (fun c => if c = true then fb ss else FW.ret (.sh (.bl false))) S := rfl
@[simp] theorem ev_vOr : vOr fa fb ss S = MM.bind (sB fa ss) (fun c => if c = true then FW.ret (.sh (.bl true)) else fb ss) S := rfl
@[simp] theorem ev_vNot : vNot fa ss S = MM.bind (sB fa ss) (fun c => FW.ret (.sh (.bl (!c)))) S := rfl
@[simp] theorem ev_vIf : vIf t fa fb ss S = MM.bind (t ss) (fun c => if c = true then fa ss else fb ss) S := rfl
@[simp] theorem ev_aNil : aNil ss S = some (.ok [], S) := rfl
@[simp] theorem ev_aCons : aCons fa ga ss S = MM.bind (fa ss) (fun x => MM.bind (ga ss) fun xs => FW.ret (x :: xs)) S := rfl
@[simp] theorem ev_sLst : sLst c ga ss S = MM.bind (ga ss) (mkL c) S := rfl
@[simp] theorem ev_sTup : sTup ga ss S = MM.bind (ga ss) mkT S := rfl
@[simp] theorem ev_call {ar : Nat} {g : Fn} : sCall ar g ga ss S = MM.bind (ga ss) (fun xs S => if xs.length = ar then g xs S else none) S := rfl
@[simp] theorem ev_chain {h h' : D → D → Option An} : sChain h h' fa fb fc ss S = MM.bind (fa ss) (fun x => MM.bind (fb ss) fun y => MM.bind (MM.bind (s2 false h x y) asB) fun b => if b = true then MM.bind (fc ss) fun z => s2 false h' y z else FW.ret (.sh (.bl false))) S := rfl
@[simp] theorem ev_allSh0 : allSh [] = some [] := rfl
@[simp] theorem ev_allSh1 {d : D} : allSh (.sh d :: xs) = (allSh xs).map (d :: ·) := rfl
@[simp] theorem ev_mkLF {ds : List D} (h : allSh xs = some ds) (hl : xs.length ≤ sizeLine) : mkL false xs S = some (.ok (.sh (.lst ds)), S) := by
  unfold mkL; rw [if_pos hl]; simp [h]
@[simp] theorem ev_mkT {ds : List D} (h : allSh xs = some ds) (hl : xs.length ≤ sizeLine) : mkT xs S = some (.ok (.sh (.tup ds)), S) := by
  unfold mkT; rw [if_pos hl]; simp [h]
theorem ev_mkLT (hl : xs.length ≤ sizeLine) : mkL true xs S = some (.ok (.cl S.length), S ++ [.lst xs]) := by
  unfold mkL; rw [if_pos hl]; simp
@[simp] theorem ev_fldS {C : String} {f : Str} {ns : List Str} {ds : List D} : fldD C f (.sh (.ins C ns ds)) S = ((ns.zip ds).lookup f).map fun d => (.ok (.sh d), S) := by
  show (if C = C then _ else _) = _
  rw [if_pos rfl]
@[simp] theorem ev_fld {C : String} {f : Str} : sFld C f fa ss S = MM.bind (fa ss) (fldD C f) S := rfl
end
/-! ### a def's answer -/
section
variable {nl : Nat} {g : SM} {xs : List SV} {S S1 S2 : Store} {d : D} {ρ : Sl}
theorem runD_sh (h : g (xs.map some ++ List.replicate (nl - xs.length) none) S = some (.rt (.sh d), S1)) (hc : cut S S1 = some S2) : runD true nl g xs S = some (.ok (.sh d), S2) := by
  unfold runD
  rw [h]
  show fin true S (.sh d) S1 = _
  unfold fin
  simp only [if_true]
  show (cut S S1).map _ = _
  rw [hc]; rfl
theorem runD_nx (h : g (xs.map some ++ List.replicate (nl - xs.length) none) S = some (.nx ρ, S1)) (hc : cut S S1 = some S2) : runD true nl g xs S = some (.ok (.sh .non), S2) := by
  unfold runD
  rw [h]
  show fin true S (.sh .non) S1 = _
  unfold fin
  simp only [if_true]
  show (cut S S1).map _ = _
  rw [hc]; rfl
/-- nothing of the store is touched -/
theorem runD_0 (h : g (xs.map some ++ List.replicate (nl - xs.length) none) S = some (.rt (.sh d), S)) : runD true nl g xs S = some (.ok (.sh d), S) := runD_sh h (cut_self S)
theorem runD_0n (h : g (xs.map some ++ List.replicate (nl - xs.length) none) S = some (.nx ρ, S)) : runD true nl g xs S = some (.ok (.sh .non), S) := runD_nx h (cut_self S)
/-- cells of its own, cut off -/
theorem runD_own (T : Store) (h : g (xs.map some ++ List.replicate (nl - xs.length) none) S = some (.rt (.sh d), S ++ T)) : runD true nl g xs S = some (.ok (.sh d), S) := runD_sh h (cut_more S T)
/-- a list of its own is handed out -/
theorem runD_lst {T : Store} {k : Nat} {ds : List D} (h : g (xs.map some ++ List.replicate (nl - xs.length) none) S = some (.rt (.cl (S.length + k)), S ++ T)) (hk : T[k]? = some (.lst (ds.map SV.sh))) : runD true nl g xs S = some (.ok (.sh (.lst ds)), S) := by
  unfold runD
  rw [h]
  show fin true S (.cl (S.length + k)) (S ++ T) = _
  unfold fin
  simp only [if_true]
  have e : (S ++ T)[S.length + k]? = some (.lst (ds.map SV.sh)) := by
    rw [List.getElem?_append_right (by omega)]
    simpa using hk
  have hf : frz (.cl (S.length + k)) (S ++ T) = some (.ok (.lst ds), S ++ T.set k (.fro (.lst ds))) := by
    unfold frz
    simp [e, allSh_map]
    done
  rw [hf]
  show (cut S _).map _ = _
  rw [cut_more]; rfl
end
end FW

set_option Elab.async false
set_option linter.all false
set_option maxRecDepth 100000
set_option maxHeartbeats 1000000
/-! FW, part N: o.m(), a method of the own class. -/
namespace FW
open PySem PySem.Spec PyProof.Rows L2 FwR
section
variable {X : Cx} {W : WX} {C : String}
/-- no field hides the method -/
def freeOf (C : String) (m : Str) : SV → Bool
  | .sh (.ins C' ns ds) => decide (C' = C) && decide (m ∉ ns)
  | _ => false
theorem freeOf_ok {K : KW} {F H : Hp} {as : AS} {S : Store} {m : Str} {v : V} {x : SV} (s : SRel K F as S H) (r : VRel K F as v x) (h : freeOf C m x = true) : ∃ a dx fs, v = .ref a ∧ H a = some (.ins (K.cm C) dx fs) ∧ fs.lookup m = none := by
  unfold freeOf at h
  split at h
  · rename_i C' ns ds
    rw [Bool.and_eq_true] at h
    have e : C' = C := of_decide_eq_true h.1
    have hm : m ∉ ns := of_decide_eq_true h.2
    subst e
    cases r with
    | @ins a dx C' ns vs ds hh hl rr =>
      refine ⟨a, dx, _, rfl, s.ff _ _ hh, ?_⟩
      clear hh rr h
      induction ns generalizing vs with
      | nil => rfl
      | cons n ns ih =>
        cases vs with
        | nil => rfl
        | cons v vs =>
          rw [List.mem_cons, not_or] at hm
          rw [List.zip_cons_cons, List.lookup_cons]
          have : (m == n) = false := by simpa using hm.1
          rw [this]
          exact ih hm.2 (by simpa using hl)
  · cases h
def sMeth0 (C : String) (m : Str) (g : Fn) (f : Sl → MM SV) : Sl → MM SV := fun ss => MM.bind (f ss) fun x S => if freeOf C m x = true then (match g [x] S with
  | some (.ok y, S1) => some (.ok y, S1)
  | _ => none) else none
theorem fe_meth0 {f : Addr} {fd : FuncData} {ps : List Str} {k : Nat} {g : Fn} {m : Str} {o : Expr} {fo : Sl → MM SV} {apos pos : Pos} {pl : Sem Bool} (ho : FE X W o fo) (c : Cls X.K (X.kw.cm C)) (hm : Meth X.K (X.kw.cm C) m f) (G : FnOk X.prog X.w X.K X.mg X.base (L2.CX X.prog X.w) k f fd ps (spG X.kw 1 g)) (hr : Room k X.A) (hb : Binds X.K fd ps [])
    (ht : eval (.Call (.Attribute o m apos) [] [] pos) X.env = (do
      let ov ← eval o X.env
      standAt apos.atName
      let (f, first) ← holding [ov] (getMethod ov m pl)
      callWith pos f first (backTo pos (starEach [] X.env)) (backToKw pos (keywordEach [] X.env))) := by rfl) : FE X W (.Call (.Attribute o m apos) [] [] pos) (sMeth0 C m g fo) := by
  obtain ⟨to, po, so⟩ := ho.ex
  refine ⟨_, pe_meth0 (E := E0) po c hm G hr hb .nil passL ht, fun σ ss F as S H Q o S' hr s h c => ?_⟩
  refine step (T := to σ H) (Rl := VR X) (fun Q o S' h c => so σ ss F as S H Q o S' hr s h c) h c ?_
  intro x S1 F1 as1 H1 v h1 e1 s1 rv c1
  split at h1
  · rename_i hf
    obtain ⟨a, dx, fs, rfl, ha, hn⟩ := freeOf_ok s1 rv hf
    split at h1
    · rename_i y S2 hg
      cases h1
      refine ⟨a, dx, fs, rfl, ha, hn, F1, as1, S1, [x], _, _, s1, .cons rv .nil, rfl, hg, fun F3 as3 H3 e3 s3 z rz => c1 F3 as3 H3 e3 s3 z rz⟩
    · cases h1
  · cases h1
end
end FW

set_option Elab.async false
set_option linter.all false
set_option maxRecDepth 100000
set_option maxHeartbeats 1000000
/-! FW, part P: raise of an own exception; try .. except X as n, the exception kept behind the suite; isinstance of it. -/
namespace FW
open PySem PySem.Spec PyProof.Rows L2 FwR
section
variable {X : Cx} {pins : List (Addr × Obj)} {σ : L2.St} {H : Hp} {s : Shared}
/-- a thing that stands already is tracked from now on -/
theorem _root_.L2.Inv.track {a : Addr} {o : HO} (I : Inv X pins σ H s) (hn : H a = none) (h0 : X.s_0.heap.get? a = none) (nL : a ≠ X.env.locals) (nC : ∀ x c, X.env.cells.lookup x = some c → c ≠ a) (nP : ∀ p ∈ X.pn ++ pins, p.1 ≠ a)
    (new : ObjOk X.prog X.w (upd H a o) s.heap a o) : Inv X pins σ (upd H a o) s := by
  have ne0 : ∀ b u, X.s_0.heap.get? b = some u → b ≠ a := fun b u e z => by rw [z, h0] at e; cases e
  have neH : ∀ b u, H b = some u → b ≠ a := fun b u e => ne_of_none e hn
  refine ⟨I.ok, I.os, I.bare, ⟨I.base.keep, I.base.slot, fun b u e q x => by rw [upd_ne (ne0 b u e)]; exact I.base.free b u e q x, I.base.there, fun b xs e => ?_, fun b u v e => ?_, fun b ps e => ?_⟩, I.loc, I.cell, ?_, fun x c e => ?_, fun p hp => ?_, fun b u e => ?_, I.len⟩
  · have q := I.base.tups b xs e
    rw [upd_ne (neH b _ q)]; exact q
  · have q := I.base.frzs b u v e
    rw [upd_ne (neH b _ q)]; exact q
  · obtain ⟨m, q⟩ := I.base.tbls b ps e
    exact ⟨m, by rw [upd_ne (neH b _ q)]; exact q⟩
  · rw [upd_ne (Ne.symm nL)]; exact I.free
  · rw [upd_ne (nC x c e)]; exact I.freeC x c e
  · obtain ⟨e, n, ne, nf, d⟩ := I.pin p hp
    exact ⟨e, by rw [upd_ne (nP p hp)]; exact n, ne, nf, d⟩
  · by_cases hb : b = a
    · subst hb; rw [upd_same] at e; cases e; exact new
    · rw [upd_ne hb] at e
      refine (I.hok b u e).stay (fun c v _ q => q) (fun c q => ?_) fun c xs q => ?_
      · rw [upd_ne (neH c _ q)]; exact q
      · rw [upd_ne (neH c _ q)]; exact q
theorem _root_.L2.Inv.suite0 (I : Inv X pins σ H s) (a : Addr) : Inv (X.suite a (X.pn ++ pins)) [] σ H s :=
  ⟨I.ok.suite _ _, I.os, I.bare, I.base, I.loc, I.cell, I.free, I.freeC, fun p hp => I.pin p (by rw [List.append_nil] at hp; exact hp), I.hok, I.len⟩
theorem _root_.L2.Inv.unsuite0 {a : Addr} {pn' : List (Addr × Obj)} (I : Inv (X.suite a (X.pn ++ pins)) pn' σ H s) (ok : X.Ok) : Inv X pins σ H s :=
  ⟨ok, I.os, I.bare, I.base, I.loc, I.cell, I.free, I.freeC, fun p hp => I.pin p (List.mem_append_left _ hp), I.hok, I.len⟩
end
/-- what the clause 'except x as n' wishes of an exception of the body, which is kept: slot i is n's -/
def wKeep (K : PySem.W.Frag) (c : Value) (i : Nat) (ts : Addr → TS) (Wout : WX) (D : Ends) : WX := fun cls d σ H =>
  ∃ b, PySem.W.exmOne K cls c = some b ∧ (b = true → ∃ C : Addr, cls = .ref C ∧ ∀ a, H a = none → ts a { nx := fun σ' H' => D.nx (σ'.set i none) H', rt := D.rt, bk := fun σ' H' => D.bk (σ'.set i none) H', ct := fun σ' H' => D.ct (σ'.set i none) H' } (σ.set i (some (.ref a))) (upd H a (ExV C d a))) ∧
    (b = false → Wout cls d σ H)
section
variable {X : Cx} {x n : Str} {c : Value} {i : Nat} {body suite : List Stmt} {b₀ : Stmt} {np pos pos' : Pos} {tb : WX → TS} {ts : Addr → TS} {Wout : WX}
theorem ps_try_keep (hs : X.stack = X.env :: X.outer) (hf : X.env.frame = some X.env.locals) (hex : X.ex = []) (hN : X.N.Nodup) (hi : X.N[i]? = some n) (hln : X.env.kindOf n = some .local) (hc : Names X x c) (tk : Takes X Wout)
    (hb : ∀ (W : WX) (pn : List (Addr × Obj)) (xe : Value → Shared → Prop), Takes (X.tr pn xe) W → PassesOwn (model X.prog X.w) X.A X.env xe → PSs (X.tr pn xe) body (tb W))
    (hsu : ∀ (a : Addr) (pn : List (Addr × Obj)), PSs (X.suite a pn) (b₀ :: suite) (ts a)) :
    PS X (.Try body [.ExceptHandler (some (.Name x np)) (some n) (b₀ :: suite) pos'] [] [] pos) (fun D σ H => tb (wKeep X.K c i ts Wout D) D σ H) := by
  refine ⟨fun pins s σ H D I h => ?_⟩
  have ok := I.ok
  have hfr : X.A.frames = some (X.env :: X.outer) := by rw [ok.frames, hs]
  have hloc : Loc X.env.scope n := .inl hln
  refine wpAny_Try_except ?_
  refine wpAny_mono ((hb (wKeep X.K c i ts Wout D) (X.pn ++ pins) (fun e s₁ => wpAny (model X.prog X.w) X.A (noteFrame e X.env) (fun _ s₂ => wpAny (model X.prog X.w) X.A (setFlight e none) (fun _ s₃ =>
    wpAny (model X.prog X.w) X.A (handleBy e X.env [.ExceptHandler (some (.Name x np)) (some n) (b₀ :: suite) pos']) (SP X pins D) X.xe s₃) X.xe s₂) X.xe s₁) (fun u s' xx => ?_) PassesOwn.looking).run [] s σ H D (I.toTry _) h) (fun f s1 hsp => ?_) (fun e s1 he => he)
  · -- the catch
    obtain ⟨a, B, sI, pins', σ', H', cls, d, rfl, J', nb, up, sky, na, os, ag, b, hb1, hyes, hno⟩ := xx
    have J : Inv X pins σ' H' sI := J'.ofTry ok
    have sky' : Sky B (X.env :: X.outer) a (Zc cls d) X.env.locals s'.heap := by rw [← hs]; exact sky
    show wpAny (model X.prog X.w) X.A (noteFrame (.ref a) X.env) _ _ _
    refine Sky.land Zc.steady hfr hf sky' fun h3 fl3 up3 => ?_
    have J3 : Inv X pins σ' H' { s' with heap := h3 } := J.landed nb fl3.1 (up.trans up3) os ag
    obtain ⟨oe3, vs3, he3, hz3, hd3⟩ := fl3.there
    have notFr : ∀ {h : Heap} {o : Obj} {vs : Array Value}, h.FunFrames B (X.env :: X.outer) → h.get? a = some o → o.data = .fields vs → a ∉ frs (X.env :: X.outer) := fun {h o vs} ff e dd hm => by
      obtain ⟨_, o', e', hnf⟩ := ff.mem hm
      rw [e] at e'; cases e'
      exact hnf _ dd
    have nfr := notFr fl3.2.2.1 he3 hd3
    have nL : a ≠ X.env.locals := fun z => nfr (List.mem_filterMap.mpr ⟨X.env, List.mem_cons_self, by rw [hf, z]⟩)
    have nF : a ∉ X.fs := fun hm => by
      obtain ⟨e, he, q⟩ := List.mem_filterMap.mp hm
      exact nfr (List.mem_filterMap.mpr ⟨e, List.mem_cons_of_mem _ he, q⟩)
    have nB : B.get? a = none := fl3.2.1
    have nSI : ∀ b o, sI.heap.get? b = some o → b ∉ frs X.stack → b ≠ a := fun b o e hb z => by
      have q := nb b o e hb
      rw [z, nB] at q; cases q
    have n0 : X.s_0.heap.get? a = none := by
      cases e : X.s_0.heap.get? a with
      | none => rfl
      | some o =>
        obtain ⟨o', q⟩ := J.base.there a o e (by rw [hex]; exact fun z => nomatch z)
        exact absurd rfl (nSI a o' q (by rw [hs]; exact nfr))
    have nP : ∀ p ∈ X.pn ++ pins, p.1 ≠ a := fun p hp => by
      obtain ⟨e, n, ne, nf, d⟩ := J.pin p hp
      refine nSI p.1 p.2 e ?_
      rw [hs]
      intro hm
      obtain ⟨ev, he, q⟩ := List.mem_filterMap.mp hm
      rcases List.mem_cons.mp he with z | z
      · rw [z, hf] at q; injection q with q; exact ne q.symm
      · exact nf (List.mem_filterMap.mpr ⟨ev, z, q⟩)
    have nC : ∀ y cc, X.env.cells.lookup y = some cc → cc ≠ a := fun y cc e z => by
      obtain ⟨v, o, ho, hd⟩ := J3.cell y cc e
      rw [z, he3] at ho; cases ho
      rw [hd3] at hd; cases hd
    have S3 := J3.suite0 a
    refine wpAny_handleBy_cons (codeAny_handlers_test ?_) (by intro q; cases q)
    have LT : PySem.W.Looks (model X.prog X.w) h3 (typeOf (.ref a)) cls := fun A Q E s k q => wpAny_typeOf_ref (k _ _ he3) (by rw [hz3.1]; exact q)
    have LM := PySem.W.exm_one (M := model X.prog X.w) (J3.kIn) LT hb1
    have test : ∀ {Q : Value → Shared → Prop} {E : Value → Shared → Prop}, Q c { s' with heap := h3 } → wpAny (model X.prog X.w) (X.A.mark (some (.ref a))) (eval (.Name x np) X.env) Q E { s' with heap := h3 } := fun {Q E} q => by
      obtain ⟨hg, hdbg, hm | ⟨hm, hv, hnn⟩⟩ := hc
      · exact ld_glob (X := X.suite a (X.pn ++ pins)) S3 hg hm q hdbg
      · exact ld_blt (X := X.suite a (X.pn ++ pins)) S3 hg hm hv q hnn hdbg
    refine test (LM.here ?_)
    cases b with
    | true =>
      refine codeAny_handlers_suite_as ?_
      refine HandSPX.lands_againZ fl3 fun h4 fl4 up4 => ?_
      have J4 : Inv X pins σ' H' { s' with heap := h4 } := J.landed nb fl4.1 ((up.trans up3).trans up4) os ag
      obtain ⟨oe4, vs4, he4, hz4, hd4⟩ := fl4.there
      obtain ⟨CA, hcls, hyes'⟩ := hyes rfl
      have hyes2 := hyes' a na
      have K4 : Inv X pins σ' (upd H' a (ExV CA d a)) { s' with heap := h4 } := J4.track na n0 nL nC nP
        ⟨⟨oe4, vs4, he4, by rw [← hcls]; exact hz4, hd4⟩, ⟨oe4, he4⟩, fun _ _ ⟨o, v, q, r⟩ k => ⟨o, v, k o q, r⟩⟩
      have S4 := K4.suite0 a
      refine store_ok (X := X.suite a (X.pn ++ pins)) (v := .ref a) S4 hN hi hloc rfl (fun s5 S5 => ?_) (.inr hln)
      refine wpAny_mono ((hsu a (X.pn ++ pins)).run [] s5 _ _ _ S5 hyes2) (fun f s6 hsp => ?_) (fun _ _ z => False.elim z)
      have end_ : ∀ {σ6 : L2.St} {H6 : Hp} {Q : Shared → Prop}, Inv (X.suite a (X.pn ++ pins)) [] σ6 H6 s6 → (∀ s7, Inv X pins (σ6.set i none) H6 s7 → Q s7) →
          wpAny (model X.prog X.w) X.A (do bindName X.env n .none; unbindBehindTheSuite X.env n pos') (fun _ s7 => Q s7) X.xe s6 := fun {σ6 H6 Q} S6 hq => gone_ok (S6.unsuite0 ok) hN hi hln hq
      cases f with
      | next =>
        obtain ⟨σ6, H6, S6, q6⟩ := hsp
        exact end_ S6 fun s7 J7 => ⟨_, _, J7, q6⟩
      | brk =>
        obtain ⟨σ6, H6, S6, q6⟩ := hsp
        exact end_ S6 fun s7 J7 => ⟨_, _, J7, q6⟩
      | cont =>
        obtain ⟨σ6, H6, S6, q6⟩ := hsp
        exact end_ S6 fun s7 J7 => ⟨_, _, J7, q6⟩
      | ret u =>
        obtain ⟨v6, σ6, H6, S6, r6, q6⟩ := hsp
        exact end_ S6 fun s7 J7 => ⟨_, _, _, J7, r6, q6⟩
    | false =>
      show wpAny _ X.A (handleBy (.ref a) X.env []) _ _ _
      refine wpAny_handleBy_nil ?_
      obtain ⟨k1, k2, k3, oe, vs, T, oT, ts', he, hz, hd, h1, hr⟩ := id fl3
      unfold PySem.passOn
      refine wpAny_bind (wpAny_field he hd h1 ?_)
      rw [if_neg (show ¬ ((Value.ref T == Value.none) = true) from by simp)]
      have fin : wpAny (model X.prog X.w) X.A (setFlight (.ref a) X.env.frame) (fun _ s4 => wpAny (model X.prog X.w) X.A (throw (.ref a) : Sem Flow) (SP X pins D) X.xe s4) X.xe { s' with heap := h3 } := by
        rw [hf]
        refine HandSPX.setFlight_upZ fl3 fun h4 hh4 up4 => wpAny_throw (tk _ _ ?_)
        exact ⟨a, B, sI, pins, σ', H', cls, d, rfl, J, nb, (up.trans up3).trans up4, .inr (.inr (by rw [hs]; exact hh4)), na, os, ag, hno rfl⟩
      first
        | exact wpAny_bind (wpAny_pure (wpAny_bind fin))
        | exact wpAny_bind fin
  · cases f with
    | next =>
      obtain ⟨σ', H', J', q⟩ := hsp
      exact wpAny_execs_nil ⟨σ', H', J'.ofTry ok, q⟩
    | brk =>
      obtain ⟨σ', H', J', q⟩ := hsp
      exact ⟨σ', H', J'.ofTry ok, q⟩
    | cont =>
      obtain ⟨σ', H', J', q⟩ := hsp
      exact ⟨σ', H', J'.ofTry ok, q⟩
    | ret u =>
      obtain ⟨v, σ', H', J', r, q⟩ := hsp
      exact ⟨v, σ', H', J'.ofTry ok, r, q⟩
end
/-! ### as readings -/
def tsOf (K : KW) (W : WX) (g : SM) : TS := fun D σ H => ∃ ss F as S o S', SlRel K F as σ ss ∧ SRel K F as S H ∧ g ss S = some (o, S') ∧ SCont K W F as S' o D
theorem FSs.can {X : Cx} {W : WX} {st : List Stmt} {g : SM} (h : FSs X W st g) : PSs X st (tsOf X.kw W g) := by
  obtain ⟨t, p, s⟩ := h.ex
  exact ⟨fun pins sh σ H D I ⟨ss, F, as, S, o, S', a, b, c, d⟩ => p.run pins sh σ H D I (s σ ss F as S H D o S' a b c d)⟩
def gRaise (C : String) : SM := fun ss S => some (.er ⟨C, [], []⟩ ss, S)
def gTry (known : List String) (i : Nat) (b u : SM) : SM := fun ss S => match b ss S with
  | some (.er x ρ, S1) => if x.cls ∈ known then (match u (ρ.set i (some (.sh (.exc x.cls x.ns x.ds)))) S1 with
    | some (.nx ρ', S2) => some (.nx (ρ'.set i none), S2)
    | some (.rt y, S2) => some (.rt y, S2)
    | _ => none) else none
  | r => r
section
variable {X : Cx} {W : WX}
theorem fs_raise {C : String} {bmB : List Value} {B newId initId : String} {x m : Str} {j : Nat} {p p2 pos pos2 : Pos} (hc : X.calm = true) (tk : Takes X W) (F : ExcBaseFacts B newId initId bmB) (q : PySem.W.excIn X.K (X.kw.cm C) bmB newId = true) (gC : X.mg x = some (.ref (X.kw.cm C))) (kC : PySem.W.keepIn X.K (.ref (X.kw.cm C)) = true) (r : Raises X (.ref (X.kw.cm C))) (hg : Gl X x)
    (hdb : (x == ("__debug__" : Str)) = false := by decide) : FS X W (.Raise (some (.Call (.Name x p) [.Constant (.str m) j p2] [] pos)) none pos2) (gRaise C) := by
  refine ⟨_, ps_raise hc tk (pmk_own F q gC kC r hg hdb), fun σ ss F as S H D o S' hr s h c => ?_⟩
  cases h
  exact c F as H (Ext.refl _ _) s σ (.ref (X.kw.cm C)) none hr ⟨rfl, .inl ⟨rfl, rfl, rfl⟩⟩
theorem exc_track {K : KW} {F H : Hp} {as : AS} {S : Store} {x : Exn} {c : Value} {d : Option Addr} {a : Addr} (s : SRel K F as S H) (r : XRel K F H x c d) (ha : H a = none) :
    SRel K (upd F a (ExV (K.cm x.cls) d a)) as S (upd H a (ExV (K.cm x.cls) d a)) ∧ Ext F as (upd F a (ExV (K.cm x.cls) d a)) as ∧ Rep K (upd F a (ExV (K.cm x.cls) d a)) (.ref a) (.exc x.cls x.ns x.ds) := by
  refine ⟨s.newF ha, Ext.newF s ha, ?_⟩
  obtain ⟨cls, ns, ds⟩ := x
  obtain ⟨_, ⟨h1, h2, h3⟩ | ⟨dd, vs, h1, h2, h3, h4⟩⟩ := r
  · have h1' : ns = [] := h1
    have h2' : ds = [] := h2
    subst h1' h2' h3
    exact .exc0 upd_same
  · subst h1
    have hs : Same F (upd F a (ExV (K.cm cls) (some dd) a)) := same_upd (s.fnone ha)
    exact .exc1 upd_same (hs _ _ h2) h3 (h4.mono hs)
theorem fs_try {known : List String} {x n : Str} {c : Value} {i : Nat} {body suite : List Stmt} {b₀ : Stmt} {np pos pos' : Pos} {b u : SM} (hs : X.stack = X.env :: X.outer) (hf : X.env.frame = some X.env.locals) (hex : X.ex = []) (hN : X.N.Nodup) (hi : X.N[i]? = some n) (hln : X.env.kindOf n = some .local) (hc : Names X x c) (tk : Takes X W)
    (hk : ∀ m ∈ known, PySem.W.exmOne X.K (.ref (X.kw.cm m)) c = some true)
    (hb : ∀ (W : WX) (pn : List (Addr × Obj)) (xe : Value → Shared → Prop), Takes (X.tr pn xe) W → PassesOwn (model X.prog X.w) X.A X.env xe → FSs (X.tr pn xe) W body b)
    (hsu : ∀ (a : Addr) (pn : List (Addr × Obj)), FSs (X.suite a pn) W0 (b₀ :: suite) u) : FS X W (.Try body [.ExceptHandler (some (.Name x np)) (some n) (b₀ :: suite) pos'] [] [] pos) (gTry known i b u) := by
  refine ⟨_, ps_try_keep (tb := fun W => tsOf X.kw W b) (ts := fun _ => tsOf X.kw W0 u) hs hf hex hN hi hln hc tk (fun W pn xe t p => (hb W pn xe t p).can) (fun a pn => (hsu a pn).can), fun σ ss F as S H D o S' hr s h c => ?_⟩
  unfold gTry at h
  cases hq : b ss S with
  | none => rw [hq] at h; cases h
  | some q =>
    obtain ⟨o1, S1⟩ := q
    rw [hq] at h
    refine ⟨ss, F, as, S, o1, S1, hr, s, hq, fun F1 as1 H1 e1 s1 => ?_⟩
    cases o1 with
    | nx ρ => cases h; exact c F1 as1 H1 e1 s1
    | rt y => cases h; exact c F1 as1 H1 e1 s1
    | bk ρ => cases h; exact c F1 as1 H1 e1 s1
    | ct ρ => cases h; exact c F1 as1 H1 e1 s1
    | er y ρ =>
      intro σ1 cl d r1 hx
      have h' : (if y.cls ∈ known then (match u (ρ.set i (some (.sh (.exc y.cls y.ns y.ds)))) S1 with
        | some (.nx ρ', S2) => some (So.nx (ρ'.set i none), S2)
        | some (.rt y, S2) => some (So.rt y, S2)
        | _ => none) else none) = some (o, S') := h
      split at h'
      · rename_i hm
        have hcl : cl = .ref (X.kw.cm y.cls) := hx.1
        refine ⟨true, by rw [hcl]; exact hk _ hm, fun _ => ⟨_, hcl, fun a ha => ?_⟩, fun z => nomatch z⟩
        obtain ⟨s2, x2, v2⟩ := exc_track s1 hx ha
        cases hu : u (ρ.set i (some (.sh (.exc y.cls y.ns y.ds)))) S1 with
        | none => rw [hu] at h'; cases h'
        | some q =>
          obtain ⟨o2, S2⟩ := q
          rw [hu] at h'
          have hrel : SlRel X.kw (upd F1 a (ExV (X.kw.cm y.cls) d a)) as1 (σ1.set i (some (.ref a))) (ρ.set i (some (.sh (.exc y.cls y.ns y.ds)))) := (r1.mono x2).set i v2
          refine ⟨_, _, as1, S1, o2, S2, hrel, s2, hu, fun F3 as3 H3 e3 s3 => ?_⟩
          cases o2 with
          | nx ρ' => cases h'; exact fun σ3 r3 => c F3 as3 H3 ((e1.trans x2).trans e3) s3 _ (r3.unset i none)
          | rt z => cases h'; exact c F3 as3 H3 ((e1.trans x2).trans e3) s3
          | bk ρ => cases h'
          | ct ρ => cases h'
          | er z ρ => cases h'
      · cases h'
end
end FW

set_option Elab.async false
set_option linter.all false
set_option maxRecDepth 100000
set_option maxHeartbeats 1000000
/-! FW, part Q: isinstance of a kept exception; count, index; any slice of a tuple; in over data of any depth; {..}[k]. -/
namespace FW
open PySem PySem.Spec PyProof.Rows L2 FwR
/-- an exception class as isinstance asks for it -/
structure ExF (K : PySem.W.Frag) (D : Addr) : Prop where
  hc : (PySem.W.clsIn K D).isSome = true
  hg : PySem.W.findIn K (.ref D) "__getattribute__" = some (some (.builtin "BaseException.__getattribute__"))
  hk : PySem.W.findIn K (.ref D) "__getattr__" = some none
  hs : PySem.W.subIn K (.ref D) (.type "BaseException") = some true
  ha : PySem.W.findIn K (.ref D) "__class__" = some (some (.builtin "object.__class__"))
  hn : PySem.W.specialIn K (.builtin "object.__class__") "__get__" = some (some (.builtin "getset_descriptor.__get__"))
  ht : PySem.W.takesIn K (.builtin "object.__class__") = some true
  hm : PySem.W.mroIn K D (.type "object") = some true
def rIsX (K : PySem.W.Frag) : List V → Hp → VK → Prop := fun xs H Q => ∃ (a D : Addr) (d : Option Addr) (c : V) (cv : Value) (b : Bool), xs = [.ref a, c] ∧ H a = some (ExV D d a) ∧ (d = none ∨ ∃ dd u, d = some dd ∧ H dd = some u) ∧ ExF K D ∧ (∀ u, RelV c u → u = cv) ∧ PySem.W.kitOne K (.ref D) cv = some b ∧ Q (.bl b) H
theorem call_isX {X : Cx} : CallR X (.builtin "isinstance") (rIsX X.K) := by
  intro pins s σ H xs us Q I r h
  obtain ⟨a, D, d, c, cv, b, rfl, ha, hd, C, hcv, e, q⟩ := h
  cases r with
  | cons rx rr =>
    cases rr with
    | cons rt rr =>
      cases rr
      cases rx
      have ec := hcv _ rt
      subst ec
      obtain ⟨⟨oe, vs, hget, hz, hv⟩, _, _⟩ := I.hok a _ ha
      have J : ∃ od, PySem.W.InstAt s.heap a oe D od := by
        obtain ⟨oc, od, oda, osl⟩ := oe
        obtain ⟨h1, h2⟩ := hz
        dsimp only at h1 h2 hv
        subst h1 h2 hv
        rcases hd with rfl | ⟨dd, u, rfl, hu⟩
        · exact ⟨none, hget, rfl, rfl, trivial⟩
        · obtain ⟨o, ho⟩ := objOk_get (I.hok dd u hu)
          exact ⟨some o, hget, rfl, rfl, ho⟩
      obtain ⟨od, J⟩ := J
      exact PySem.W.kia_one (PySem.W.kitx_exc C.hc C.hg C.hk C.hs C.ha C.hn C.ht C.hm) I.kIn J e (fun z => nomatch z) fun tk => ⟨.bl b, H, I.kept (t' := tk) fun _ _ z => z, rfl, q⟩
/-- of which classes an exception is -/
structure ExK (K : KW) (known targets : List String) : Prop where
  f : ∀ n ∈ known, ExF K.K (K.cm n)
  c : ∀ n ∈ known, ∀ m ∈ targets, PySem.W.kitOne K.K (.ref (K.cm n)) (.ref (K.cm m)) = some (decide (n = m) || decide (m = "SpinError"))
  v : ∀ n ∈ known, PySem.W.kitOne K.K (.ref (K.cm n)) (.type "ValueError") = some true
def dIsX (known targets : List String) : D → D → Option An
  | .exc n _ _, .cls m => if n ∈ known ∧ m ∈ targets then some (.val (.bl (decide (n = m) || decide (m = "SpinError")))) else none
  | .exc n _ _, .ty t => if n ∈ known ∧ t = "ValueError" then some (.val (.bl true)) else none
  | _, _ => none
theorem RdRel.exc {K : KW} {F H : Hp} {v : V} {C : String} {ns : List Str} {ds : List D} (r : RdRel K F H v (.exc C ns ds)) (s : Same F H) : ∃ a d, v = .ref a ∧ H a = some (ExV (K.cm C) d a) ∧ (d = none ∨ ∃ dd u, d = some dd ∧ H dd = some u) := by
  cases r with
  | fz r =>
    cases r with
    | exc0 h => exact ⟨_, none, rfl, s _ _ h, .inl rfl⟩
    | exc1 h hx hl r => exact ⟨_, _, rfl, s _ _ h, .inr ⟨_, _, rfl, s _ _ hx⟩⟩
  | lst hv hd h r => cases hd
  | ins hv hd h hl r => cases hd
theorem snd_isX {K : KW} {known targets : List String} (T : ExK K known targets) : SndN K (rIsX K.K) (on2 (dIsX known targets)) := fun F H xs ds an Q s rx hg q => by
  unfold on2 at hg
  split at hg
  · rename_i d t
    obtain ⟨v, w, rfl, r1, r2⟩ := pair2 rx
    unfold dIsX at hg
    split at hg
    · rename_i n ns es m
      split at hg
      · rename_i hm
        cases hg
        obtain ⟨a, d, rfl, ha, hd⟩ := r1.exc s
        have e2 := r2.cls
        subst e2
        exact ⟨a, _, d, _, _, _, rfl, ha, hd, T.f n hm.1, fun u r => r, T.c n hm.1 m hm.2, q _ (.bl _)⟩
      · cases hg
    · rename_i n ns es t
      split at hg
      · rename_i hm
        obtain ⟨hm, rfl⟩ := hm
        cases hg
        obtain ⟨a, d, rfl, ha, hd⟩ := r1.exc s
        have e2 := r2.ty
        subst e2
        exact ⟨a, _, d, _, _, _, rfl, ha, hd, T.f n hm, fun u r => r, T.v n hm, q _ (.bl _)⟩
      · cases hg
    · cases hg
  · cases hg
section
variable {X : Cx} {W : WX}
theorem fe_isiX {known targets : List String} {x t : Expr} {fa : Sl → MM (List SV)} {p pos : Pos} (T : ExK X.kw known targets) (hg : Gl X "isinstance") (hm : X.mg "isinstance" = none) (ha : FA X W [x, t] fa)
    (he : starEach [x, t] X.env = (false, eval x X.env) :: starEach [t] X.env := by rfl) (hpl : (backTo pos (starEach [t] X.env)).any (·.1) = false := by rfl) : FE X W (.Call (.Name "isinstance" p) [x, t] [] pos) (bN false (on2 (dIsX known targets)) fa) :=
  fe_callB false call_isX (snd_isX T) hg hm PyProof.Rows.boot_isinstance ha (by decide) (by decide) he hpl

/-! ### any slice of a tuple, a text, a list -/
def dSlA (lo hi : Option Int) : D → Option An
  | .str z => if z.length ≤ sizeLine then some (.val (.str (cutS z lo hi))) else none
  | .lst ds => some (.lst (cutD ds lo hi))
  | .scr ds => some (.lst (cutD ds lo hi))
  | .tup ds => if HT.sIx ds.length 0 lo = 0 ∧ HT.sIx ds.length ds.length hi = ds.length then some (.val (.tup ds)) else some (.tup (cutD ds lo hi))
  | _ => none
theorem snd_slA {K : KW} (lo hi : Option Int) : Snd1 K (fun x H Q => rSlL K.K x lo hi H Q ∨ (rSlA K.K x lo hi H Q ∨ rSlS x lo hi H Q)) (dSlA lo hi) := fun F H x d an Q s rx hg q => by
  unfold dSlA at hg
  split at hg
  · split at hg
    · rename_i h
      cases hg
      exact .inr (.inr ⟨_, rx.str, h, q _ (.str _)⟩)
    · cases hg
  · cases hg
    obtain ⟨a, vs, rfl, ha, ra⟩ := rx.isLst s
    exact .inl ⟨a, vs, rfl, SqL.of ha, fun p hp => q p _ hp (ra.cut lo hi)⟩
  · cases hg
    obtain ⟨a, vs, rfl, ha, ra⟩ := rx.isScr s
    exact .inl ⟨a, vs, rfl, ha, fun p hp => q p _ hp (ra.cut lo hi)⟩
  · rename_i ds
    cases rx with
    | fz r =>
      cases r with
      | @tup a vs ds hh rr =>
        split at hg
        · rename_i h
          cases hg
          exact .inr (.inl ⟨a, vs, rfl, SqT.of (s _ _ hh), fun _ => q _ (.tup hh rr), fun h' => absurd (by rw [rr.length]; exact h) h'⟩)
        · rename_i h
          cases hg
          exact .inr (.inl ⟨a, vs, rfl, SqT.of (s _ _ hh), fun h' => absurd (by rw [rr.length] at h'; exact h') h, fun _ p hp => q p _ hp (rr.cut lo hi)⟩)
    | lst hv hd h r => cases hd
    | ins hv hd h hl r => cases hd
  · cases hg
def bSlA (c : Bool) (f : Sl → MM SV) (l h : Sl → MM (Option Int)) : Sl → MM SV := fun ss => MM.bind (f ss) fun x => MM.bind (l ss) fun lo => MM.bind (h ss) fun hi => s1 c (dSlA lo hi) x
theorem fe_sliceA {e : Expr} {lo hi : Option Expr} {f : Sl → MM SV} {fl fh : Sl → MM (Option Int)} {pos p2 : Pos} (c : Bool) (he : FE X W e f) (hl : FO X W lo fl) (hh : FO X W hi fh) : FE X W (.Subscript e (.Slice lo hi none p2) pos) (bSlA c f fl fh) := by
  obtain ⟨te, pe, se⟩ := he.ex
  obtain ⟨tl, pl, sl⟩ := hl.ex
  obtain ⟨th, ph, sh⟩ := hh.ex
  refine ⟨_, pe_slice (sl_list.or (sl_tupA.or sl_str)) pe pl ph, fun σ ss F as S H Q o S' hr s h cn => ?_⟩
  refine step (T := te σ H) (Rl := VR X) (fun Q o S' h c => se σ ss F as S H Q o S' hr s h c) h cn ?_
  intro x S1 F1 as1 H1 v h1 e1 s1 rv c1
  refine stepO (T := tl σ H1) (fun Q o S' h c => sl σ ss F1 as1 S1 H1 Q o S' (hr.mono e1) s1 h c) h1 c1 ?_
  intro l S2 F2 as2 H2 h2 e2 s2 c2
  refine stepO (T := th σ H2) (fun Q o S' h c => sh σ ss F2 as2 S2 H2 Q o S' ((hr.mono e1).mono e2) s2 h c) h2 c2 ?_
  intro u S3 F3 as3 H3 h3 e3 s3 c3
  exact s1_ok (snd_slA l u) s3 ((rv.mono e2).mono e3) h3 c3

/-! ### text.count(t), bools.count(b), flat.index(y) -/
def dCntS : D → List D → Option An
  | .str a, [.str b] => some (.val (.int (Txt.count a b)))
  | _, _ => none
theorem snd_cntS {K : KW} : SndM K (fun x xs H Q => ∃ a b, x = .str a ∧ xs = [.str b] ∧ Q (.int (Txt.count a b)) H) dCntS := fun F H x d xs ds an Q s rx rxs hg q => by
  unfold dCntS at hg
  split at hg
  · cases hg
    obtain ⟨v, rfl, r⟩ := pair1 rxs
    exact ⟨_, _, rx.str, by rw [r.str], q _ (.int _)⟩
  · cases hg
theorem fe_countS {o e : Expr} {f : Sl → MM SV} {ga : Sl → MM (List SV)} {apos cpos : Pos} (ho : FE X W o f) (ha : FA X W [e] ga) (hbase : attributeBase o "count" X.env (eval o X.env) = eval o X.env := by rfl)
    (hfew : ((backTo cpos (starEach [e] X.env)).all (fun x => !x.1) && (backToKw cpos (keywordEach [] X.env)).all (fun x => x.1.isSome)
      && decide ([e].length + ([] : List Keyword).length + (if ([] : List Keyword).isEmpty then 0 else 1) < 30)) = true := by rfl)
    (hline : (apos.endLine == cpos.line) = true := by rfl) (hst : starEach [e] X.env = (false, eval e X.env) :: starEach [] X.env := by rfl) (hplain : (backTo cpos (starEach [] X.env)).any (·.1) = false := by rfl) :
    FE X W (.Call (.Attribute o "count" apos) [e] [] cpos) (sM "str" false dCntS f ga) :=
  fe_bm false PySem.F.plainAttrs_str F.slot_str_count F.type_str_count mt_count snd_cntS ho ha hbase hfew hline hst hplain
theorem eqAt_bools {k : Bool} : ∀ {bs : List Bool} {us : List Value}, Vals (bs.map V.bl) us → ∀ y ∈ us, ∀ (A : Around) (s : Shared), SeqAt.EqAt A s y (.bool k) (PyProof.Rows.isBoolOf k y)
  | [], us, r, y, hy, A, s => by rw [List.map_nil] at r; cases r; cases hy
  | b :: bs, us, r, y, hy, A, s => by
    rw [List.map_cons] at r
    cases r with
    | cons r1 r2 =>
      rename_i u us
      cases (show u = Value.bool b from r1)
      rcases List.mem_cons.mp hy with e | e
      · subst e; exact SeqAt.EqAt.bool_bool b k
      · exact eqAt_bools r2 y e A s
theorem countP_bools {k : Bool} : ∀ {bs : List Bool} {us : List Value}, Vals (bs.map V.bl) us → us.countP (PyProof.Rows.isBoolOf k) = bs.count k
  | [], us, r => by rw [List.map_nil] at r; cases r; rfl
  | b :: bs, us, r => by
    rw [List.map_cons] at r
    cases r with
    | cons r1 r2 =>
      rename_i u us
      cases (show u = Value.bool b from r1)
      rw [List.countP_cons, List.count_cons, countP_bools r2]
      rfl
def rCntB (K : PySem.W.Frag) : V → List V → Hp → VK → Prop := fun x xs H Q => ∃ (p : Addr) (bs : List Bool) (k : Bool), x = .ref p ∧ xs = [.bl k] ∧ SqL K H p (bs.map V.bl) ∧ Q (.int (bs.count k : Nat)) H
theorem mt_bcount : MtR X "list.count" (rCntB X.K) := by
  intro pins s σ H x xs v us Q I rx rxs h
  obtain ⟨p, bs, k, rfl, rfl, hs, q⟩ := h
  cases rx
  obtain ⟨u, rfl, ru⟩ := rxs.one
  cases ru
  obtain ⟨its, rv, ⟨⟨cls, dd, data, sl⟩, n, ho, hc, hdn, hd⟩, hlen⟩ := I.list hs
  simp only at hc hd
  subst hc hd
  refine call_meets PySem.F.slot_list_count ⟨_, ho, rfl⟩ PySem.F.entry_list_count (PySem.F.args_list_count_2 _ _)
    (SeqAt.list_countAt p its.toArray n dd sl (.bool k) (PyProof.Rows.isBoolOf k)) ⟨ho, fun y hy => eqAt_bools rv y (by simpa using hy) _ _, ?_⟩
  refine ⟨.int (bs.count k : Nat), H, I.tok _, ⟨s.toks, ?_⟩, q⟩
  show Value.int ((its.toArray.toList.countP (PyProof.Rows.isBoolOf k) : Nat) : Int) s.toks = Value.int ((bs.count k : Nat) : Int) s.toks
  rw [show its.toArray.toList = its from by simp, countP_bools rv]
def dCntB : D → List D → Option An
  | d, [.bl k] => (lstD d).bind fun ds => (blsD ds).map fun bs => .val (.int (bs.count k : Nat))
  | _, _ => none
theorem snd_cntB {K : KW} : SndM K (rCntB K.K) dCntB := fun F H x d xs ds an Q s rx rxs hg q => by
  unfold dCntB at hg
  split at hg
  · rename_i k
    obtain ⟨v, rfl, r⟩ := pair1 rxs
    cases h1 : lstD d with
    | none => rw [h1] at hg; cases hg
    | some es =>
      rw [h1] at hg
      cases h2 : blsD es with
      | none => simp [h2] at hg
      | some bs =>
        simp only [h2, Option.bind_some, Option.map_some] at hg
        cases hg
        obtain ⟨a, vs, rfl, hq, rr⟩ := rx.lstD s h1
        rw [blsD_eq h2] at rr
        rw [rr.of_bls] at hq
        exact ⟨a, bs, k, rfl, by rw [r.bl], hq, q _ (.int _)⟩
  · cases hg
theorem fe_countB {o e : Expr} {f : Sl → MM SV} {ga : Sl → MM (List SV)} {apos cpos : Pos} (ho : FE X W o f) (ha : FA X W [e] ga) (hbase : attributeBase o "count" X.env (eval o X.env) = eval o X.env := by rfl)
    (hfew : ((backTo cpos (starEach [e] X.env)).all (fun x => !x.1) && (backToKw cpos (keywordEach [] X.env)).all (fun x => x.1.isSome)
      && decide ([e].length + ([] : List Keyword).length + (if ([] : List Keyword).isEmpty then 0 else 1) < 30)) = true := by rfl)
    (hline : (apos.endLine == cpos.line) = true := by rfl) (hst : starEach [e] X.env = (false, eval e X.env) :: starEach [] X.env := by rfl) (hplain : (backTo cpos (starEach [] X.env)).any (·.1) = false := by rfl) :
    FE X W (.Call (.Attribute o "count" apos) [e] [] cpos) (sM "list" false dCntB f ga) :=
  fe_bm false PySem.F.plainAttrs_list F.slot_list_count F.type_list_count mt_bcount snd_cntB ho ha hbase hfew hline hst hplain
/-- the first place of an equal flat thing -/
def ixF (y : D) : List D → Option Nat
  | [] => none
  | z :: r => if eqDf z y = true then some 0 else (ixF y r).map (· + 1)
theorem ixF_some {y : D} : ∀ {ds : List D} {j : Nat}, ixF y ds = some j → (∃ z, ds[j]? = some z ∧ eqDf z y = true) ∧ ∀ m z', m < j → ds[m]? = some z' → eqDf z' y = false
  | [], j, h => by cases h
  | z :: r, j, h => by
    unfold ixF at h
    by_cases hz : eqDf z y = true
    · rw [if_pos hz] at h; cases h
      exact ⟨⟨z, rfl, hz⟩, fun m z' hm => absurd hm (Nat.not_lt_zero _)⟩
    · rw [if_neg hz] at h
      cases q : ixF y r with
      | none => rw [q] at h; cases h
      | some i =>
        rw [q] at h; cases h
        obtain ⟨⟨w, h1, h2⟩, h3⟩ := ixF_some q
        refine ⟨⟨w, by simpa using h1, h2⟩, fun m z' hm hz' => ?_⟩
        cases m with
        | zero => simp at hz'; subst hz'; simpa using hz
        | succ m =>
          have hm' : m + 1 < i + 1 := hm
          exact h3 m z' (by omega) (by simpa using hz')
def dIndex : D → List D → Option An
  | d, [y] => (lstD d).bind fun ds => if (flatD y && ds.all flatD) = true then (ixF y ds).map fun j => .val (.int (j : Nat)) else none
  | _, _ => none
theorem snd_index {K : KW} : SndM K (rIndex K.K) dIndex := fun F H x d xs ds an Q s rx rxs hg q => by
  unfold dIndex at hg
  split at hg
  · rename_i y
    obtain ⟨v, rfl, r⟩ := pair1 rxs
    cases h1 : lstD d with
    | none => rw [h1] at hg; cases hg
    | some es =>
      rw [h1] at hg
      have hg' : (if (flatD y && es.all flatD) = true then (ixF y es).map fun j => An.val (.int (j : Nat)) else none) = some an := hg
      split at hg'
      · rename_i hf
        obtain ⟨f1, f2⟩ := Bool.and_eq_true_iff.mp hf
        cases h2 : ixF y es with
        | none => rw [h2] at hg'; cases hg'
        | some j =>
          rw [h2] at hg'; cases hg'
          obtain ⟨a, vs, rfl, hq, rr⟩ := rx.lstD s h1
          obtain ⟨g1, g2⟩ := r.flat f1
          obtain ⟨g3, g4⟩ := flat_vs rr f2
          obtain ⟨⟨z, hz, ez⟩, hno⟩ := ixF_some h2
          refine ⟨a, vs, v, j, vOf z, rfl, rfl, hq, g2, g4, ?_, ?_, fun m z' hm hz' => ?_, q _ (.int _)⟩
          · rw [g3, List.getElem?_map, hz]; rfl
          · rw [g1, eq_vOf (List.all_eq_true.mp f2 z (List.mem_of_getElem? hz)) f1]; exact ez
          · rw [g3, List.getElem?_map] at hz'
            cases q1 : es[m]? with
            | none => rw [q1] at hz'; cases hz'
            | some w =>
              rw [q1] at hz'; cases hz'
              rw [g1, eq_vOf (List.all_eq_true.mp f2 w (List.mem_of_getElem? q1)) f1]
              exact hno m w hm q1
      · cases hg'
  · cases hg
theorem fe_index {o e : Expr} {f : Sl → MM SV} {ga : Sl → MM (List SV)} {apos cpos : Pos} (ho : FE X W o f) (ha : FA X W [e] ga) (hbase : attributeBase o "index" X.env (eval o X.env) = eval o X.env := by rfl)
    (hfew : ((backTo cpos (starEach [e] X.env)).all (fun x => !x.1) && (backToKw cpos (keywordEach [] X.env)).all (fun x => x.1.isSome)
      && decide ([e].length + ([] : List Keyword).length + (if ([] : List Keyword).isEmpty then 0 else 1) < 30)) = true := by rfl)
    (hline : (apos.endLine == cpos.line) = true := by rfl) (hst : starEach [e] X.env = (false, eval e X.env) :: starEach [] X.env := by rfl) (hplain : (backTo cpos (starEach [] X.env)).any (·.1) = false := by rfl) :
    FE X W (.Call (.Attribute o "index" apos) [e] [] cpos) (sM "list" false dIndex f ga) :=
  fe_bm false PySem.F.plainAttrs_list F.slot_list_index F.type_list_index mt_index snd_index ho ha hbase hfew hline hst hplain

/-! ### in, data of any depth -/
def dInD (n : Bool) : D → D → Option An := fun d e => match toPy d, toPy e with
  | some p, some (.list qs) => if (SeqAt.shaped p && SeqAt.shaped (.list qs)) = true then some (.val (.bl (n != qs.any fun z => PyData.eqv z p))) else none
  | _, _ => none
theorem snd_inD {K : KW} : Snd2 K (rInD K.K) (dInD false) := fun F H x y d e an Q s rx ry hg q => by
  unfold dInD at hg
  split at hg
  · rename_i p qs h1 h2
    split at hg
    · rename_i h
      cases hg
      obtain ⟨z1, z2⟩ := Bool.and_eq_true_iff.mp h
      exact ⟨p, qs, rd_dp s rx h1, rd_dp s ry h2, z1, z2, by have := q _ (.bl _); simpa using this⟩
    · cases hg
  · cases hg
theorem snd_notInD {K : KW} : Snd2 K (rNotInD K.K) (dInD true) := fun F H x y d e an Q s rx ry hg q => by
  unfold dInD at hg
  split at hg
  · rename_i p qs h1 h2
    split at hg
    · rename_i h
      cases hg
      obtain ⟨z1, z2⟩ := Bool.and_eq_true_iff.mp h
      exact ⟨p, qs, rd_dp s rx h1, rd_dp s ry h2, z1, z2, by have := q _ (.bl _); simpa using this⟩
    · cases hg
  · cases hg
theorem fe_inD {a b : Expr} {fa fb : Sl → MM SV} {pos : Pos} (hu : X.A.units + 65 < cLine) (ha : FE X W a fa) (hb : FE X W b fb) (hm : behindInMarks .In b = false := by rfl) : FE X W (.Compare a [.In] [b] pos) (b2 false (dInD false) fa fb) := fe_cmp (op_inD hu) snd_inD ha hb hm
theorem ft_inD {a b : Expr} {fa fb : Sl → MM SV} {pos : Pos} (hu : X.A.units + 65 < cLine) (ha : FE X W a fa) (hb : FE X W b fb) (hm : behindInMarks .In b = false := by rfl) : FT X W (.Compare a [.In] [b] pos) (sB (b2 false (dInD false) fa fb)) := ft_cmp (op_inD hu) snd_inD ha hb hm
theorem fe_ninD {a b : Expr} {fa fb : Sl → MM SV} {pos : Pos} (hu : X.A.units + 65 < cLine) (ha : FE X W a fa) (hb : FE X W b fb) (hm : behindInMarks .NotIn b = false := by rfl) : FE X W (.Compare a [.NotIn] [b] pos) (b2 false (dInD true) fa fb) := fe_cmp (op_notInD hu) snd_notInD ha hb hm
theorem ft_ninD {a b : Expr} {fa fb : Sl → MM SV} {pos : Pos} (hu : X.A.units + 65 < cLine) (ha : FE X W a fa) (hb : FE X W b fb) (hm : behindInMarks .NotIn b = false := by rfl) : FT X W (.Compare a [.NotIn] [b] pos) (sB (b2 false (dInD true) fa fb)) := ft_cmp (op_notInD hu) snd_notInD ha hb hm
end
end FW

set_option Elab.async false
set_option linter.all false
set_option maxRecDepth 100000
set_option maxHeartbeats 1000000
/-! FW, part T: {'a': 'b', ..}[k], keys and values written texts. -/
namespace FW
open PySem PySem.Spec PyProof.Rows L2 FwR
section
variable {X : Cx} {W : WX}
def trT (kvs : List (Str × Str)) : List (TE × TE) := kvs.map fun kv => (tC (.str kv.1), tC (.str kv.2))
structure FPs (X : Cx) (pos : Pos) (keys : List (Option Expr)) (values : List Expr) (kvs : List (Str × Str)) : Prop where
  ex : PPs X pos keys values (trT kvs)
theorem fp_nil {pos : Pos} : FPs X pos [] [] [] := ⟨pps_nil⟩
theorem fp_cons {pos : Pos} {k v : Str} {j1 j2} {p1 p2 : Pos} {keys : List (Option Expr)} {values : List Expr} {kvs : List (Str × Str)} (h : FPs X pos keys values kvs) : FPs X pos (some (.Constant (.str k) j1 p1) :: keys) (.Constant (.str v) j2 p2 :: values) ((k, v) :: kvs) := ⟨pps_cons pe_str pe_str h.ex⟩
def prT (kvs : List (Str × Str)) : List (Key × V) := kvs.map fun kv => (Sum.inr kv.1, V.str kv.2)
theorem pairs_run {σ : L2.St} {H : Hp} : ∀ {kvs : List (Str × Str)} {Q : List (V × V) → Hp → Prop}, Q ((prT kvs).map fun kv => (kV kv.1, kv.2)) H → tPairs (trT kvs) σ H Q
  | [], Q, h => h
  | (k, v) :: r, Q, h => by
    show tPairs (trT r) σ H fun ps H3 => Q ((V.str k, V.str v) :: ps) H3
    exact pairs_run h
/-- what the displayed dict tells -/
def lookT (kvs : List (Str × Str)) (z : Str) : Option Str := match valV (mergeK [] (prT kvs)) (Sum.inr z) with
  | some (.str v) => some v
  | _ => none
def sDictT (kvs : List (Str × Str)) (f : Sl → MM SV) : Sl → MM SV := fun ss S => match f ss S with
  | some (.ok (.sh (.str z)), S1) => (lookT kvs z).map fun v => (.ok (.sh (.str v)), S1)
  | _ => none
theorem SRel.weak {K : KW} {F H : Hp} {as : AS} {S : Store} {g : Addr → Option HO} (s : SRel K F as S H) (h : ∀ a o, g a = some o → as.g a = some o) : SRel K F ⟨as.l, g⟩ S H := by
  refine ⟨s.ff, s.nd, s.len, s.there, fun k a m h1 h2 => ?_, fun a o e => s.gh a o (h a o e)⟩
  have c := s.cell k a m h1 h2
  cases m with
  | lst xs => exact c
  | ins C ns xs => exact c
  | fro d => exact c
  | dct ks xs => exact c
theorem fe_dictT {keys : List (Option Expr)} {values : List Expr} {kvs : List (Str × Str)} {i : Expr} {f : Sl → MM SV} {pos pos2 : Pos} (hu : X.A.units + 1 < cLine) (hp : FPs X pos2 keys values kvs) (hi : FE X (fun _ _ _ _ => False) i f) (hs : NoSl i := by exact fun _ _ => rfl)
    (hall : keys.all (·.isSome) = true := by rfl) (hl : keys.length = values.length := by rfl) (h0 : keys ≠ [] := by exact fun z => nomatch z) (h15 : keys.length ≤ 15 := by decide) (hk15 : kvs.length ≤ 15 := by decide) : FE X W (.Subscript (.Dict keys values pos2) i pos) (sDictT kvs f) := by
  obtain ⟨ti, pi, si⟩ := hi.ex
  refine ⟨_, pe_dget hu (pe_disp hp.ex hall hl h0 h15) pi hs, fun σ ss F as S H Q o S' hr s h c => ?_⟩
  intro p hpn
  refine pairs_run ⟨upd_same, prT kvs, rfl, by unfold prT; simpa using hk15, ?_⟩
  rw [upd_upd]
  unfold sDictT at h
  split at h
  · rename_i z S1 h1
    have s1 := s.hide (o := .dK (mergeK [] (prT kvs))) hpn
    refine si σ ss F _ S _ _ _ S1 (hr.hide) s1 h1 fun F1 as1 H1 e1 s2 v rv => ?_
    have ev : v = .str z := Rep.str_of rv
    subst ev
    cases q : lookT kvs z with
    | none => rw [q] at h; cases h
    | some w =>
      rw [q] at h
      have eo : o = .ok (.sh (.str w)) ∧ S' = S1 := by cases h; exact ⟨rfl, rfl⟩
      obtain ⟨rfl, rfl⟩ := eo
      unfold lookT at q
      split at q
      · rename_i w' hw
        cases q
        have gp : as1.g p = some (.dK (mergeK [] (prT kvs))) := by rw [e1.gs]; exact hide_same
        have hH : H1 p = some (.dK (mergeK [] (prT kvs))) := (s2.gh p _ gp).1
        refine ⟨p, .str w, rfl, ?_, ?_⟩
        · have := DGet.k (k := Sum.inr z) hH
          rw [hw] at this
          exact this
        · obtain ⟨t, et⟩ := e1.pre
          have sw : SRel X.kw F1 ⟨as1.l, as.g⟩ S' H1 := s2.weak (g := as.g) fun a o e => by
            rw [e1.gs]
            have ne : a ≠ p := fun z => by rw [z, s.gnone hpn] at e; cases e
            rw [hide_ne ne]; exact e
          exact c F1 ⟨as1.l, as.g⟩ H1 ⟨e1.same, ⟨t, et⟩, rfl⟩ sw _ (.str _)
      · cases q
  · cases h
end
end FW
namespace FW
open PySem PySem.Spec PyProof.Rows L2 FwR
theorem boot_ValueError : bootBuiltins "ValueError" = some (.type "ValueError") := by kernel_rfl
end FW

set_option Elab.async false
set_option linter.all false
set_option maxRecDepth 100000
set_option maxHeartbeats 1000000
/-! FW, part U: index and in over own instances. -/
namespace FW
open PySem PySem.Spec PyProof.Rows L2 FwR
open AutoSeq1 (wpAny_loadPart')
open MeetsSeq MeetsSeq2 MeetsSeq3 SeqRoads2 SeqAt
theorem str_eq_declines_ins (z : Str) (t : Tok) (l : Addr) (C dx : Addr) :
    Meets (Builtin.«str.__eq__» ⟨[.str z t, .ref l], []⟩) (fun _ R s => s.heap.get? l = some (PySem.W.instObj C dx) ∧ R (.ok (.ret .notImplemented)) s) :=
  .of_wp fun prog w A R s h => by obtain ⟨hp, g, d, tk, os⟩ := s; obtain ⟨hl, h⟩ := h; wp_walk using wpAny_loadPart' hl, wpAny_load hl; exact ⟨_, rfl, h⟩
section
variable {X : Cx} {CX : CXT} {k : Nat} {C fe fs fl : Addr} {fd : FuncData} {ps : List Str} {sp : Sp} {E : XK} {pins : List (Addr × Obj)} {σ : L2.St} {H : Hp} {s : Shared}
/-- == of an item with the sought, both of this class, or the item a text -/
def EqRun (C : Addr) (sp : Sp) (E : XK) (x y : V) (H : Hp) (P : Bool → Hp → Prop) : Prop := ∃ b dy gs, y = .ref b ∧ H b = some (.ins C dy gs) ∧
  ((∃ a dx flds, x = .ref a ∧ H a = some (.ins C dx flds) ∧ (a = b → P true H) ∧ (a ≠ b → sp [.ref a, .ref b] H (fun v H' => ∃ r, v = .bl r ∧ P r H') E))
  ∨ (∃ z, x = .str z ∧ sp [.ref b, .str z] H (fun v H' => ∃ r, v = .bl r ∧ P r H') E)
  ∨ (x = .non ∧ sp [.ref b, .non] H (fun v H' => ∃ r, v = .bl r ∧ P r H') E))
theorem eqBool_run {A : Around} {x y : V} {u v : Value} {P : Bool → Hp → Prop} (T : OwnC X.K C fe fs fl) (hS : PySem.W.subIn X.K (.ref C) (.type "str") = some false ∧ PySem.W.subIn X.K (.ref C) (.type "NoneType") = some false) (F : FnOk X.prog X.w X.K X.mg X.base CX k fe fd ps sp) (hr : Room (k + 1) A) (hA : A.frames = X.A.frames) (hb : Binds X.K fd ps []) (hx : Passes CX X E)
    (I : Inv X pins σ H s) (rx : RelV x u) (ry : RelV y v) (h : EqRun C sp E x y H P) : wpAny (model X.prog X.w) A (eqBool u v) (fun b s' => ∃ H', Inv X pins σ H' s' ∧ P b H') X.xe s := by
  obtain ⟨b, dy, gs, rfl, hb', h⟩ := h
  cases (show v = Value.ref b from ry)
  obtain ⟨mB, JB, _⟩ := ins_get I.hok hb'
  have hoB := JB.obj
  obtain ⟨odB, JB, _⟩ := JB.look
  obtain ⟨m, hF⟩ := I.fr
  rcases h with ⟨a, dx, flds, rfl, ha, h1, h2⟩ | ⟨z, rfl, h⟩ | ⟨rfl, h⟩
  · cases (show u = Value.ref a from rx)
    by_cases hab : a = b
    · subst hab
      exact SeqAt.EqAt.same (A := A) (s := s) (.ref a) X.prog X.w X.xe _ ⟨H, I, h1 rfl⟩
    · refine GQ.eqBool_refG hab ?_
      obtain ⟨mA, J, _⟩ := ins_get I.hok ha
      obtain ⟨od, J, _⟩ := J.look
      refine PySem.W.cmp_K (op := .Eq) (tb := .ref C) hr.units0 hF I.ok.mod.kin J JB.type (notFirst_self _ _) T.eq T.feq ?_
      refine wpAny_mono (run_at (E := fun _ => E) F (hr.mono (by omega)) hA hb (fun pins H s e s' I c => hx pins σ H s e s' I c) I (show Vals [V.ref a, V.ref b] [Value.ref a, Value.ref b] from .cons rfl (.cons rfl .nil)) (h2 hab)) (fun r s' q => ?_) fun _ _ z => z
      obtain ⟨z, H', I', rz, r, ez, q⟩ := q
      subst ez
      cases rz
      exact ⟨r, rfl, H', I', q⟩
  · obtain ⟨t, rfl⟩ := (show ∃ t, u = Value.str z t from rx)
    unfold eqBool
    refine wpAny_holding ?_
    refine wpAny_ite_split (fun hab => absurd (eq_of_beq hab) (fun z => nomatch z)) (fun _ => ?_)
    have one : wpAny (model X.prog X.w) A (richCompare .Eq (.str z t) (.ref b)) (fun v s' => ∃ r, v = .bool r ∧ ∃ H', Inv X pins σ H' s' ∧ P r H') X.xe s := by
      have hX := I.kIn
      unfold richCompare
      simp only [(typeIs_str s z t).oneThing_none]
      refine wpAny_holding (wpAny_bind (wpAny_cRoomFor hr.units0 ?_))
      refine wpAny_bind (wpAny_typeOf (typeIs_str s z t) (wpAny_bind (JB.type.here ?_)))
      have hne : (Value.type "str" != Value.ref C) = true := rfl
      simp only [hne, if_true]
      refine wpAny_bind ((PySem.W.looks_subIn hX hS.1).here ?_)
      simp only [Bool.false_eq_true, if_false, Bool.not_false, if_true]
      refine wpAny_bind (m := tryCompare (.str z t) _ (.ref b)) (wpAny_tryCompare_declines (typeIs_str s z t) PySem.F.slot_str_eq (call_meets PySem.F.slot_str_eq (typeIs_str s z t) PySem.F.entry_str_eq (PySem.F.args_str_eq_2 _ _) (str_eq_declines_ins z t b C dy) ⟨hoB, rfl, ?_⟩))
      have two : wpAny (model X.prog X.w) A (tryCompare (.ref b) (cmpInfo .Eq).2.2 (.str z t)) (fun r s' => ∃ v, r = some v ∧ ∃ r, v = .bool r ∧ ∃ H', Inv X pins σ H' s' ∧ P r H') X.xe s := by
        unfold tryCompare
        refine wpAny_bind (PySem.W.ifBound_K hX JB T.eq T.feq (wpAny_mono (run_at (E := fun _ => E) F (hr.mono (by omega)) hA hb (fun pins H s e s' I c => hx pins σ H s e s' I c) I (show Vals [V.ref b, V.str z] [Value.ref b, Value.str z t] from .cons rfl (.cons ⟨t, rfl⟩ .nil)) h) (fun r s' q => ?_) fun _ _ z => z))
        obtain ⟨w, H', I', rz, r, ez, q⟩ := q
        subst ez
        cases rz
        exact wpAny_pure ⟨_, rfl, r, rfl, H', I', q⟩
      refine wpAny_bind (wpAny_mono two (fun r s' q => ?_) fun _ _ z => z)
      obtain ⟨v, rfl, q⟩ := q
      exact wpAny_pure q
    refine wpAny_bind (wpAny_mono one (fun v s' hv => ?_) fun _ _ x => x)
    obtain ⟨r, rfl, q⟩ := hv
    exact wpAny_truthy_bool q
  · cases (show u = Value.none from rx)
    unfold eqBool
    refine wpAny_holding ?_
    refine wpAny_ite_split (fun hab => absurd (eq_of_beq hab) (fun z => nomatch z)) (fun _ => ?_)
    have one : wpAny (model X.prog X.w) A (richCompare .Eq .none (.ref b)) (fun v s' => ∃ r, v = .bool r ∧ ∃ H', Inv X pins σ H' s' ∧ P r H') X.xe s := by
      have hX := I.kIn
      unfold richCompare
      simp only [(typeIs_none s).oneThing_none]
      refine wpAny_holding (wpAny_bind (wpAny_cRoomFor hr.units0 ?_))
      refine wpAny_bind (wpAny_typeOf (typeIs_none s) (wpAny_bind (JB.type.here ?_)))
      have hne : (Value.type "NoneType" != Value.ref C) = true := rfl
      simp only [hne, if_true]
      refine wpAny_bind ((PySem.W.looks_subIn hX hS.2).here ?_)
      simp only [Bool.false_eq_true, if_false, Bool.not_false, if_true]
      refine wpAny_bind (m := tryCompare .none _ (.ref b)) (wpAny_tryCompare_declines (typeIs_none s) PySem.F.slot_NoneType_eq (call_gives PySem.F.slot_NoneType_eq rfl PySem.F.entry_NoneType_eq (PySem.F.args_NoneType_eq_2 _ _) (NoneType___eq___none_ref_0 b) ⟨rfl, ?_⟩))
      have two : wpAny (model X.prog X.w) A (tryCompare (.ref b) (cmpInfo .Eq).2.2 .none) (fun r s' => ∃ v, r = some v ∧ ∃ r, v = .bool r ∧ ∃ H', Inv X pins σ H' s' ∧ P r H') X.xe s := by
        unfold tryCompare
        refine wpAny_bind (PySem.W.ifBound_K hX JB T.eq T.feq (wpAny_mono (run_at (E := fun _ => E) F (hr.mono (by omega)) hA hb (fun pins H s e s' I c => hx pins σ H s e s' I c) I (show Vals [V.ref b, V.non] [Value.ref b, Value.none] from .cons rfl (.cons rfl .nil)) h) (fun r s' q => ?_) fun _ _ z => z))
        obtain ⟨w, H', I', rz, r, ez, q⟩ := q
        subst ez
        cases rz
        exact wpAny_pure ⟨_, rfl, r, rfl, H', I', q⟩
      refine wpAny_bind (wpAny_mono two (fun r s' q => ?_) fun _ _ z => z)
      obtain ⟨v, rfl, q⟩ := q
      exact wpAny_pure q
    refine wpAny_bind (wpAny_mono one (fun v s' hv => ?_) fun _ _ x => x)
    obtain ⟨r, rfl, q⟩ := hv
    exact wpAny_truthy_bool q
/-- the list at l is gone through from i on: yes where an equal one stands, no behind all of them -/
def LoopRun (K : PySem.W.Frag) (C : Addr) (sp : Sp) (E : XK) (l : Addr) (all : List V) (y : V) (yes : Nat → V) (no : Option V) : Nat → Nat → Hp → VK → Prop
  | 0, _, _, _ => False
  | n + 1, i, H, Q => SqL K H l all ∧ match all[i]? with
    | none => ∃ z, no = some z ∧ Q z H
    | some x => EqRun C sp E x y H (fun b H' => if b = true then Q (yes i) H' else LoopRun K C sp E l all y yes no n (i + 1) H' Q)
theorem contains_run {A : Around} {l : Addr} {all : List V} {y : V} {v : Value} {Q : VK} (T : OwnC X.K C fe fs fl) (hS : PySem.W.subIn X.K (.ref C) (.type "str") = some false ∧ PySem.W.subIn X.K (.ref C) (.type "NoneType") = some false) (F : FnOk X.prog X.w X.K X.mg X.base CX k fe fd ps sp) (hr : Room (k + 2) A) (hA : A.frames = X.A.frames) (hb : Binds X.K fd ps []) (hx : Passes CX X E) (ry : RelV y v) :
    ∀ (n i : Nat) (H : Hp) (s : Shared), Inv X pins σ H s → LoopRun X.K C sp E l all y (fun _ => .bl true) (some (.bl false)) n i H Q →
      wpAny (model X.prog X.w) A.in1 (Builtin.«list.__contains__.loop» ⟨[.ref l, v, rawInt i], []⟩) (GQ.FinOf X.prog X.w A (wants (EP X pins σ Q) X.xe)) (fun e s' => wants (EP X pins σ Q) X.xe (.error e) s') s
  | 0, i, H, s, I, h => h.elim
  | n + 1, i, H, s, I, h => by
    obtain ⟨hs, h⟩ := h
    obtain ⟨its, rv, ⟨⟨cls, dd, data, sl⟩, m, ho, hc, hdn, hd⟩, hlen⟩ := I.list hs
    simp only at hc hd
    subst hc hd
    have hvl := rv.length
    cases hx' : all[i]? with
    | none =>
      rw [hx'] at h
      obtain ⟨z, hz, q⟩ := h
      cases hz
      have hge : all.length ≤ i := List.getElem?_eq_none_iff.mp hx'
      have hi : its.toArray[((i : Nat) : Int).toNat]? = none := by simp; omega
      obtain ⟨hp, g, d, tk, os⟩ := s
      wp_walk using wpAny_loadPart' ho
      rw [hi]
      wp_walk
      exact ⟨.bl false, H, I, rfl, q⟩
    | some x =>
      rw [hx'] at h
      obtain ⟨u, hu, ru⟩ := rv.get hx'
      have hi : its.toArray[((i : Nat) : Int).toNat]? = some u := by simpa using hu
      have ht := eqBool_run (A := A.in1) T hS F hr.in1 hA hb hx I ru ry h
      have hc : ((i : Int) + 1) = ((i + 1 : Nat) : Int) := by push_cast; rfl
      obtain ⟨hp, g, d, tk, os⟩ := s
      wp_walk using wpAny_loadPart' ho
      rw [hi]
      refine wpAny_bind (wpAny_mono ht (fun r s2 q => ?_) fun _ _ x => x)
      obtain ⟨H', I', q⟩ := q
      cases r with
      | true =>
        have q' : Q (.bl true) H' := by simpa using q
        wp_walk
        exact ⟨.bl true, H', I', rfl, q'⟩
      | false =>
        have q' : LoopRun X.K C sp E l all y (fun _ => .bl true) (some (.bl false)) n (i + 1) H' Q := by simpa using q
        have ih := contains_run T hS F hr hA hb hx ry n (i + 1) H' s2 I' q'
        obtain ⟨hp2, g2, d2, tk2, os2⟩ := s2
        wp_walk
        rw [hc]
        exact ⟨plainId_quiet plain_contains_loop _, codeAny_builtin entry_contains_loop (by
          rw [Around.under_plainId plain_contains_loop _]
          exact ih)⟩
theorem index_run {A : Around} {l : Addr} {all : List V} {y : V} {v : Value} {Q : VK} (T : OwnC X.K C fe fs fl) (hS : PySem.W.subIn X.K (.ref C) (.type "str") = some false ∧ PySem.W.subIn X.K (.ref C) (.type "NoneType") = some false) (F : FnOk X.prog X.w X.K X.mg X.base CX k fe fd ps sp) (hr : Room (k + 2) A) (hA : A.frames = X.A.frames) (hb : Binds X.K fd ps []) (hx : Passes CX X E) (ry : RelV y v) (upto : Int) (hal : (all.length : Int) ≤ upto) :
    ∀ (n i : Nat) (H : Hp) (s : Shared), Inv X pins σ H s → LoopRun X.K C sp E l all y (fun i => .int (i : Nat)) none n i H Q →
      wpAny (model X.prog X.w) A.in1 (Builtin.«list.index.loop» ⟨[.ref l, v, rawInt i, rawInt upto], []⟩) (GQ.FinOf X.prog X.w A (wants (EP X pins σ Q) X.xe)) (fun e s' => wants (EP X pins σ Q) X.xe (.error e) s') s
  | 0, i, H, s, I, h => h.elim
  | n + 1, i, H, s, I, h => by
    obtain ⟨hs, h⟩ := h
    obtain ⟨its, rv, ⟨⟨cls, dd, data, sl⟩, m, ho, hc, hdn, hd⟩, hlen⟩ := I.list hs
    simp only at hc hd
    subst hc hd
    have hvl := rv.length
    cases hx' : all[i]? with
    | none =>
      rw [hx'] at h
      obtain ⟨z, hz, q⟩ := h
      cases hz
    | some x =>
      rw [hx'] at h
      obtain ⟨u, hu, ru⟩ := rv.get hx'
      have hlt : i < all.length := (List.getElem?_eq_some_iff.mp hx').1
      have hup : (i : Int) < upto := by omega
      have hi : (if (i : Int) < upto then its.toArray[((i : Nat) : Int).toNat]? else none) = some u := by rw [if_pos hup]; simpa using hu
      have ht := eqBool_run (A := A.in1) T hS F hr.in1 hA hb hx I ru ry h
      have hc : ((i : Int) + 1) = ((i + 1 : Nat) : Int) := by push_cast; rfl
      obtain ⟨hp, g, d, tk, os⟩ := s
      wp_walk using wpAny_loadPart' ho
      rw [hi]
      refine wpAny_bind (wpAny_mono ht (fun r s2 q => ?_) fun _ _ x => x)
      obtain ⟨H', I', q⟩ := q
      cases r with
      | true =>
        have q' : Q (.int (i : Nat)) H' := by simpa using q
        have I'' := I'.tok (s2.toks + 1)
        obtain ⟨hp2, g2, d2, tk2, os2⟩ := s2
        wp_walk
        exact ⟨.int (i : Nat), H', I'', ⟨_, rfl⟩, q'⟩
      | false =>
        have q' : LoopRun X.K C sp E l all y (fun i => .int (i : Nat)) none n (i + 1) H' Q := by simpa using q
        have ih := index_run T hS F hr hA hb hx ry upto hal n (i + 1) H' s2 I' q'
        obtain ⟨hp2, g2, d2, tk2, os2⟩ := s2
        wp_walk
        rw [hc]
        exact ⟨plainId_quiet plain_index_loop _, codeAny_builtin entry_index_loop (by
          rw [Around.under_plainId plain_index_loop _]
          exact ih)⟩
/-- x in l -/
def rInOwn (K : PySem.W.Frag) (C : Addr) (sp : Sp) (E : XK) : R2 := fun x y H Q => ∃ l all n, y = .ref l ∧ LoopRun K C sp E l all x (fun _ => .bl true) (some (.bl false)) n 0 H (fun z H' => ∃ b, z = .bl b ∧ Q (.bl b) H')
theorem list_in {A : Around} {l : Addr} {items : Array Value} {n : Nat} {dd : Option Addr} {sl : Array (Option Value)} {v : Value} {R : Result → Shared → Prop} (ho : s.heap.get? l = some { cls := .type "list", dict := dd, data := .seq items n, slots := sl })
    (h : wpAny (model X.prog X.w) A.in1 (Builtin.«list.__contains__.loop» ⟨[.ref l, v, rawInt (0 : Nat)], []⟩) (GQ.FinOf X.prog X.w A R) (fun e s' => R (.error e) s') s) :
    wpAny (model X.prog X.w) A.in1 (Builtin.«list.__contains__» ⟨[.ref l, v], []⟩) (GQ.FinOf X.prog X.w A R) (fun e s' => R (.error e) s') s := by
  obtain ⟨hp, g, d, tk, os⟩ := s
  wp_walk using wpAny_loadPart' ho
  exact ⟨plainId_quiet plain_contains_loop _, codeAny_builtin entry_contains_loop (by
    rw [Around.under_plainId plain_contains_loop _]
    exact h)⟩
theorem list_ix {A : Around} {l : Addr} {items : Array Value} {n : Nat} {dd : Option Addr} {sl : Array (Option Value)} {v : Value} {R : Result → Shared → Prop} (ho : s.heap.get? l = some { cls := .type "list", dict := dd, data := .seq items n, slots := sl })
    (h : wpAny (model X.prog X.w) A.in1 (Builtin.«list.index.loop» ⟨[.ref l, v, rawInt (0 : Nat), rawInt (2 ^ 63 - 1)], []⟩) (GQ.FinOf X.prog X.w A R) (fun e s' => R (.error e) s') s) :
    wpAny (model X.prog X.w) A.in1 (Builtin.«list.index» ⟨[.ref l, v], []⟩) (GQ.FinOf X.prog X.w A R) (fun e s' => R (.error e) s') s := by
  obtain ⟨hp, g, d, tk, os⟩ := s
  have f1 := AutoSeq1.idx_int
  wp_walk using wpAny_loadPart' ho
  have a1 : ((fun i : Int => if i < 0 then max 0 (i + (items.size : Int)) else i) ((none : Option Int).getD 0)) = ((0 : Nat) : Int) := by simp
  have a2 : ((fun i : Int => if i < 0 then max 0 (i + (items.size : Int)) else i) ((none : Option Int).getD (2 ^ 63 - 1))) = 2 ^ 63 - 1 := by simp
  rw [a1, a2]
  exact ⟨plainId_quiet plain_index_loop _, codeAny_builtin entry_index_loop (by
    rw [Around.under_plainId plain_index_loop _]
    exact h)⟩
theorem op_inOwn (T : OwnC X.K C fe fs fl) (hS : PySem.W.subIn X.K (.ref C) (.type "str") = some false ∧ PySem.W.subIn X.K (.ref C) (.type "NoneType") = some false) (F : FnOk X.prog X.w X.K X.mg X.base CX k fe fd ps sp) (hr : Room (k + 2) X.A) (hb : Binds X.K fd ps []) (hx : Passes CX X E) : OpR X (compareOp .In) (rInOwn X.K C sp E) := by
  intro pins s σ H x y v u Q I rx ry h
  obtain ⟨l, all, n, rfl, h⟩ := h
  cases (show u = Value.ref l from ry)
  cases n with
  | zero => exact h.elim
  | succ n =>
    have hs := h.1
    obtain ⟨its, rv, ⟨⟨cls, dd, data, sl⟩, m, ho, hc, hdn, hd⟩, hlen⟩ := I.list hs
    simp only at hc hd
    subst hc hd
    have hrun := contains_run (A := X.A) (Q := fun z H' => ∃ b, z = .bl b ∧ Q (.bl b) H') (v := v) T hS F hr rfl hb hx rx (n + 1) 0 H s I h
    show wpAny _ X.A (do return Value.bool (← contains (.ref l) v) : Sem Value) _ _ s
    refine wpAny_bind (wpAny_contains_slot (⟨_, ho, rfl⟩ : s.TypeIs (.ref l) "list") PySem.F.slot_list_contains (wpAny_mono (GQ.call_here PySem.F.slot_list_contains ⟨_, ho, rfl⟩ PySem.F.entry_list_contains (PySem.F.args_list_contains_2 _ _) (list_in ho hrun)) (fun r s' q => ?_) fun _ _ z => z))
    obtain ⟨z, H', I', rz, bb, ez, q⟩ := q
    subst ez
    cases rz
    exact wpAny_truthy_bool (wpAny_pure ⟨.bl bb, H', I', rfl, q⟩)
/-- l.index(x) -/
def rIndexOwn (K : PySem.W.Frag) (C : Addr) (sp : Sp) (E : XK) : V → List V → Hp → VK → Prop := fun x ys H Q => ∃ l all y n, x = .ref l ∧ ys = [y] ∧ all.length < 1000 ∧ LoopRun K C sp E l all y (fun i => .int (i : Nat)) none n 0 H Q
theorem mt_indexOwn (T : OwnC X.K C fe fs fl) (hS : PySem.W.subIn X.K (.ref C) (.type "str") = some false ∧ PySem.W.subIn X.K (.ref C) (.type "NoneType") = some false) (F : FnOk X.prog X.w X.K X.mg X.base CX k fe fd ps sp) (hr : Room (k + 2) X.A) (hb : Binds X.K fd ps []) (hx : Passes CX X E) : MtR X "list.index" (rIndexOwn X.K C sp E) := by
  intro pins s σ H x xs v us Q I rx rxs h
  obtain ⟨l, all, y, n, rfl, rfl, hal, h⟩ := h
  cases (show v = Value.ref l from rx)
  cases rxs with
  | cons ry rt =>
    cases rt
    cases n with
    | zero => exact h.elim
    | succ n =>
      have hs := h.1
      obtain ⟨its, rv, ⟨⟨cls, dd, data, sl⟩, m, ho, hc, hdn, hd⟩, hlen⟩ := I.list hs
      simp only at hc hd
      subst hc hd
      have hrun := index_run (A := X.A) (Q := Q) T hS F hr rfl hb hx ry (2 ^ 63 - 1) (by omega) (n + 1) 0 H s I h
      exact GQ.call_here PySem.F.slot_list_index ⟨_, ho, rfl⟩ PySem.F.entry_list_index (PySem.F.args_list_index_2 _ _) (list_ix ho hrun)
end
/-! ### the readings -/
def tsD : D → Bool
  | .int _ => true
  | .str _ => true
  | _ => false
/-- of one row of numbers and texts -/
def plainI : D → Bool
  | .ins _ ns [.tup ds] => ds.all tsD
  | _ => false
theorem ts_uniq {K : KW} {F : Hp} : ∀ {vs : List V} {ds es : List D}, RepL K F vs ds → RepL K F vs es → ds.all tsD = true → es.all tsD = true → ds = es
  | [], _, _, .nil, .nil, _, _ => rfl
  | v :: vs, _, _, .cons a r, .cons b q, h1, h2 => by
    rw [List.all_cons, Bool.and_eq_true] at h1 h2
    rw [ts_uniq r q h1.2 h2.2]
    congr 1
    cases a <;> first | (cases h1.1; done) | skip
    · cases b <;> first | (cases h2.1; done) | rfl
    · cases b <;> first | (cases h2.1; done) | rfl
theorem zip_inj {α β : Type} : ∀ {a c : List α} {b d : List β}, a.length = b.length → c.length = d.length → a.zip b = c.zip d → a = c ∧ b = d
  | [], [], [], [], _, _, _ => ⟨rfl, rfl⟩
  | [], c :: cs, [], d :: ds, _, _, h => by cases h
  | a :: as, [], b :: bs, [], _, _, h => by cases h
  | a :: as, c :: cs, b :: bs, d :: ds, h1, h2, h => by
    simp only [List.zip_cons_cons, List.cons.injEq, Prod.mk.injEq] at h
    obtain ⟨⟨rfl, rfl⟩, h⟩ := h
    obtain ⟨rfl, rfl⟩ := zip_inj (by simpa using h1) (by simpa using h2) h
    exact ⟨rfl, rfl⟩
theorem ins_uniq {K : KW} {F : Hp} {a : Addr} {C : String} {ns ns' : List Str} {ds ds' : List D} (r : Rep K F (.ref a) (.ins C ns ds)) (q : Rep K F (.ref a) (.ins C ns' ds')) (h : plainI (.ins C ns ds) = true) (h' : plainI (.ins C ns' ds') = true) : D.ins C ns ds = D.ins C ns' ds' := by
  cases r with
  | @ins _ dx _ _ vs _ hh hl rr =>
    cases q with
    | @ins _ dx' _ _ vs' _ hh' hl' rr' =>
      rw [hh] at hh'
      injection hh' with e
      injection e with e1 e2 e3
      obtain ⟨rfl, rfl⟩ := zip_inj hl hl' e3
      unfold plainI at h h'
      split at h
      · rename_i n1 n2 es he
        cases he
        split at h'
        · rename_i n3 n4 es' he'
          cases he'
          congr 1
          cases rr with
          | cons x xr =>
            cases rr' with
            | cons y yr =>
              cases xr
              cases x with
              | tup f1 r1 =>
                cases y with
                | tup f2 r2 =>
                  rw [f1] at f2
                  injection f2 with f2
                  injection f2 with f2
                  subst f2
                  rw [ts_uniq r1 r2 h h']
        · cases h'
      · cases h
section
open Classical
/-- is an item the sought -/
noncomputable def eqItem (C : String) (g : Fn) (S : Store) (d y : D) : Option Bool := match d with
  | .ins C' ns es => if C' = C then (if g [.sh (.ins C' ns es), .sh y] S = some (.ok (.sh (.bl true)), S) then some true
      else if g [.sh (.ins C' ns es), .sh y] S = some (.ok (.sh (.bl false)), S) ∧ plainI (.ins C' ns es) = true ∧ plainI y = true ∧ D.ins C' ns es ≠ y then some false else none) else none
  | .str z => if g [.sh y, .sh (.str z)] S = some (.ok (.sh (.bl true)), S) then some true else if g [.sh y, .sh (.str z)] S = some (.ok (.sh (.bl false)), S) then some false else none
  | .non => if g [.sh y, .sh .non] S = some (.ok (.sh (.bl true)), S) then some true else if g [.sh y, .sh .non] S = some (.ok (.sh (.bl false)), S) then some false else none
  | _ => none
end
noncomputable def loopD (C : String) (g : Fn) (S : Store) (y : D) (yes : Nat → D) (no : Option D) : List D → Nat → Option D
  | [], _ => no
  | d :: r, i => match eqItem C g S d y with
    | some true => some (yes i)
    | some false => loopD C g S y yes no r (i + 1)
    | none => none
theorem isOwn_d {C : String} {d : D} (h : isOwn C (.sh d) = true) : ∃ ns ds, d = .ins C ns ds := by
  unfold isOwn at h
  split at h
  · rename_i C' ns ds he
    have e : C' = C := of_decide_eq_true h
    subst e
    cases he
    exact ⟨_, _, rfl⟩
  · cases h
theorem loop_ok {K : KW} {C : String} {g : Fn} {S : Store} {y : D} {yes : Nat → D} {no : Option D} {yesV : Nat → V} {noV : Option V} {l b : Addr} {vs : List V} {ds : List D} {Q : VK} (hC : isOwn C (.sh y) = true)
    (hno : ∀ d, no = some d → ∃ z, noV = some z ∧ ∀ F, Rep K F z d) (hyes : ∀ i F, Rep K F (yesV i) (yes i)) :
    ∀ (r : List D) (i : Nat) (F : Hp) (as : AS) (H : Hp) (z : D), SRel K F as S H → F l = some (.lst vs) → RepL K F vs ds → Rep K F (.ref b) y → (∃ pre, ds = pre ++ r ∧ pre.length = i) →
      loopD C g S y yes no r i = some z → (∀ F' as' H' v, Ext F as F' as' → SRel K F' as' S H' → Rep K F' v z → Q v H') →
      LoopRun K.K (K.cm C) (spG K 2 g) E0 l vs (.ref b) yesV noV (r.length + 1) i H Q
  | [], i, F, as, H, z, s, hl, rl, ry, ⟨pre, hp, hi⟩, h, q => by
    refine ⟨SqL.of (s.ff _ _ hl), ?_⟩
    have hn : vs[i]? = none := by
      rw [List.getElem?_eq_none_iff, rl.length, hp, ← hi]; simp
    rw [hn]
    obtain ⟨zv, e1, e2⟩ := hno z h
    exact ⟨zv, e1, q F as H zv (Ext.refl _ _) s (e2 F)⟩
  | d :: r, i, F, as, H, z, s, hl, rl, ry, ⟨pre, hp, hi⟩, h, q => by
    refine ⟨SqL.of (s.ff _ _ hl), ?_⟩
    have hd : ds[i]? = some d := by rw [hp, ← hi]; simp
    obtain ⟨x, hx, rx⟩ := rl.get hd
    rw [hx]
    obtain ⟨ny, dy, rfl⟩ := isOwn_d hC
    have nx : ∀ F' as' H', Ext F as F' as' → SRel K F' as' S H' → eqItem C g S d (.ins C ny dy) = some false → LoopRun K.K (K.cm C) (spG K 2 g) E0 l vs (.ref b) yesV noV (r.length + 1) (i + 1) H' Q := fun F' as' H' e s' hf => by
      refine loop_ok hC hno hyes r (i + 1) F' as' H' z s' (e.same _ _ hl) (rl.mono e.same) (ry.mono e.same) ⟨pre ++ [d], by rw [hp]; simp, by simp [hi]⟩ ?_ fun F2 as2 H2 v e2 s2 rv => q F2 as2 H2 v (e.trans e2) s2 rv
      unfold loopD at h
      rw [hf] at h
      exact h
    have ys : ∀ F' as' H', Ext F as F' as' → SRel K F' as' S H' → eqItem C g S d (.ins C ny dy) = some true → Q (yesV i) H' := fun F' as' H' e s' hf => by
      unfold loopD at h
      rw [hf] at h
      cases h
      exact q F' as' H' _ e s' (hyes i F')
    obtain ⟨ab, dxb, fb, eb, hb⟩ := isOwn_ok (C := C) s (show VRel K F as (.ref b) (.sh (.ins C ny dy)) from ry) (by simp [isOwn])
    cases eb
    refine ⟨b, dxb, fb, rfl, hb, ?_⟩
    have hi : ∃ bb, eqItem C g S d (.ins C ny dy) = some bb := by
      cases he : eqItem C g S d (.ins C ny dy) with
      | none => unfold loopD at h; rw [he] at h; cases h
      | some bb => exact ⟨bb, rfl⟩
    obtain ⟨bb, he⟩ := hi
    have fin : ∀ F' as' H', Ext F as F' as' → SRel K F' as' S H' → (if bb = true then Q (yesV i) H' else LoopRun K.K (K.cm C) (spG K 2 g) E0 l vs (.ref b) yesV noV (r.length + 1) (i + 1) H' Q) := fun F' as' H' e s' => by
      cases bb with
      | true => rw [if_pos rfl]; exact ys F' as' H' e s' he
      | false => rw [if_neg (by decide)]; exact nx F' as' H' e s' he
    have run : ∀ (xs : List SV) (ws : List V), VsRel K F as ws xs → xs.length = 2 → g xs S = some (.ok (.sh (.bl bb)), S) → spG K 2 g ws H (fun v H' => ∃ r', v = .bl r' ∧ if r' = true then Q (yesV i) H' else LoopRun K.K (K.cm C) (spG K 2 g) E0 l vs (.ref b) yesV noV (r.length + 1) (i + 1) H' Q) E0 := fun xs ws rw' hl2 hg =>
      ⟨F, as, S, xs, _, _, s, rw', hl2, hg, fun F3 as3 H3 e3 s3 v rv => ⟨bb, Rep.bl_of rv, fin F3 as3 H3 e3 s3⟩⟩
    have he0 := he
    unfold eqItem at he
    split at he
    · rename_i C' ns es
      split at he
      · rename_i hcc
        subst hcc
        obtain ⟨a, dxa, fa, ea, ha⟩ := isOwn_ok (C := C') s (show VRel K F as x (.sh (.ins C' ns es)) from rx) (by simp [isOwn])
        subst ea
        refine .inl ⟨a, dxa, fa, rfl, ha, fun hab => ?_, fun hab => ?_⟩
        · subst hab
          have hbb : bb = true := by
            split at he
            · cases he; rfl
            · split at he
              · rename_i hc
                exact absurd (ins_uniq rx ry hc.2.1 hc.2.2.1) hc.2.2.2
              · cases he
          subst hbb
          have := fin F as H (Ext.refl _ _) s
          simpa using this
        · refine run [.sh (.ins C' ns es), .sh (.ins C' ny dy)] _ (.cons rx (.cons ry .nil)) rfl ?_
          split at he
          · rename_i hc; cases he; exact hc
          · split at he
            · rename_i hc; cases he; exact hc.1
            · cases he
      · cases he
    · rename_i zz
      cases (show x = V.str zz from Rep.str_of rx)
      refine .inr (.inl ⟨zz, rfl, run [.sh (.ins C ny dy), .sh (.str zz)] _ (.cons ry (.cons rx .nil)) rfl ?_⟩)
      split at he
      · rename_i hc; cases he; exact hc
      · split at he
        · rename_i hc; cases he; exact hc
        · cases he
    · cases (show x = V.non from by cases rx; rfl)
      refine .inr (.inr ⟨rfl, run [.sh (.ins C ny dy), .sh .non] _ (.cons ry (.cons rx .nil)) rfl ?_⟩)
      split at he
      · rename_i hc; cases he; exact hc
      · split at he
        · rename_i hc; cases he; exact hc
        · cases he
    · cases he
theorem loopD_bl {C : String} {g : Fn} {S : Store} {y z : D} : ∀ {r : List D} {i : Nat}, loopD C g S y (fun _ => .bl true) (some (.bl false)) r i = some z → ∃ b, z = .bl b
  | [], i, h => by cases h; exact ⟨_, rfl⟩
  | d :: r, i, h => by
    unfold loopD at h
    split at h
    · cases h; exact ⟨_, rfl⟩
    · exact loopD_bl h
    · cases h
noncomputable def inOwn (C : String) (g : Fn) (x l : SV) : MM SV := fun S => match x, l with
  | .sh y, .sh (.lst ds) => if isOwn C (.sh y) = true then (loopD C g S y (fun _ => .bl true) (some (.bl false)) ds 0).map fun d => (.ok (.sh d), S) else none
  | _, _ => none
noncomputable def sInOwn (C : String) (g : Fn) (fa fb : Sl → MM SV) : Sl → MM SV := fun ss => MM.bind (fa ss) fun x => MM.bind (fb ss) fun l => inOwn C g x l
noncomputable def ixOwn (C : String) (g : Fn) (l : SV) (ys : List SV) : MM SV := fun S => match l, ys with
  | .sh (.lst ds), [.sh y] => if isOwn C (.sh y) = true ∧ ds.length < 1000 then (loopD C g S y (fun i => .int (i : Nat)) none ds 0).map fun d => (.ok (.sh d), S) else none
  | _, _ => none
noncomputable def sIxOwn (C : String) (g : Fn) (f : Sl → MM SV) (ga : Sl → MM (List SV)) : Sl → MM SV := fun ss => MM.bind (f ss) fun l => match l with
  | .sh (.lst ds) => MM.bind (ga ss) fun ys => ixOwn C g (.sh (.lst ds)) ys
  | _ => fun _ => none
section
variable {X : Cx} {W : WX} {C : String} {f fs fl : Addr} {fd : FuncData} {ps : List Str} {k : Nat} {g : Fn}
theorem inOwn_ok {fa fb : Sl → MM SV} {ta tb : TE}
    (sa : ∀ (σ : L2.St) (ss : Sl) (F : Hp) (as : AS) (S : Store) (H : Hp) (Q : VK) (o : Ou SV) (S' : Store), SlRel X.kw F as σ ss → SRel X.kw F as S H → fa ss S = some (o, S') → Cont X.kw (WE W σ) F as S' o (fun x F' as' H' => ∀ v, VRel X.kw F' as' v x → Q v H') → ta σ H Q)
    (sb : ∀ (σ : L2.St) (ss : Sl) (F : Hp) (as : AS) (S : Store) (H : Hp) (Q : VK) (o : Ou SV) (S' : Store), SlRel X.kw F as σ ss → SRel X.kw F as S H → fb ss S = some (o, S') → Cont X.kw (WE W σ) F as S' o (fun x F' as' H' => ∀ v, VRel X.kw F' as' v x → Q v H') → tb σ H Q)
    (σ : L2.St) (ss : Sl) (F : Hp) (as : AS) (S : Store) (H : Hp) (Q : VK) (o : Ou SV) (S' : Store) (hr : SlRel X.kw F as σ ss) (s : SRel X.kw F as S H) (h : sInOwn C g fa fb ss S = some (o, S'))
    (cn : Cont X.kw (WE W σ) F as S' o (fun x F' as' H' => ∀ v, VRel X.kw F' as' v x → Q v H')) : tOp (rInOwn X.K (X.kw.cm C) (spG X.kw 2 g) E0) ta tb σ H Q := by
  refine step (T := ta σ H) (Rl := VR X) (fun Q o S' h c => sa σ ss F as S H Q o S' hr s h c) h cn ?_
  intro x S1 F1 as1 H1 v h1 e1 s1 rv c1
  refine step (T := tb σ H1) (Rl := VR X) (fun Q o S' h c => sb σ ss F1 as1 S1 H1 Q o S' (hr.mono e1) s1 h c) h1 c1 ?_
  intro y S2 F2 as2 H2 w h2 e2 s2 rw' c2
  unfold inOwn at h2
  split at h2
  · rename_i d ds
    split at h2
    · rename_i hc
      cases hl : loopD C g S2 d (fun _ => .bl true) (some (.bl false)) ds 0 with
      | none => rw [hl] at h2; cases h2
      | some z =>
        rw [hl] at h2
        cases h2
        have rx := rv.mono e2
        obtain ⟨b, dx, flds, eb, hb⟩ := isOwn_ok s2 rx hc
        subst eb
        obtain ⟨bb, ez⟩ := loopD_bl hl
        subst ez
        cases rw' with
        | @lst l vs _ hh rr =>
          refine ⟨l, vs, ds.length + 1, rfl, loop_ok hc (fun d e => by cases e; exact ⟨_, rfl, fun F => .bl false⟩) (fun i F => .bl true) ds 0 F2 as2 H2 (.bl bb) s2 hh rr rx ⟨[], rfl, rfl⟩ hl fun F' as' H' v e s' r => ?_⟩
          exact ⟨bb, Rep.bl_of r, c2 F' as' H' e s' _ (.bl bb)⟩
    · cases h2
  · cases h2
theorem fe_inOwn {a b : Expr} {fa fb : Sl → MM SV} {pos : Pos} (T : OwnC X.K (X.kw.cm C) f fs fl) (hS : PySem.W.subIn X.K (.ref (X.kw.cm C)) (.type "str") = some false ∧ PySem.W.subIn X.K (.ref (X.kw.cm C)) (.type "NoneType") = some false) (G : FnOk X.prog X.w X.K X.mg X.base (L2.CX X.prog X.w) k f fd ps (spG X.kw 2 g)) (hr : Room (k + 2) X.A) (hb : Binds X.K fd ps []) (ha : FE X W a fa) (hb' : FE X W b fb) (hm : behindInMarks .In b = false) : FE X W (.Compare a [.In] [b] pos) (sInOwn C g fa fb) := by
  obtain ⟨ta, pa, sa⟩ := ha.ex
  obtain ⟨tb, pb, sb⟩ := hb'.ex
  exact ⟨_, pe_cmpR (op_inOwn T hS G hr hb passL) pa pb hm, inOwn_ok sa sb⟩
theorem ft_inOwn {a b : Expr} {fa fb : Sl → MM SV} {pos : Pos} (T : OwnC X.K (X.kw.cm C) f fs fl) (hS : PySem.W.subIn X.K (.ref (X.kw.cm C)) (.type "str") = some false ∧ PySem.W.subIn X.K (.ref (X.kw.cm C)) (.type "NoneType") = some false) (G : FnOk X.prog X.w X.K X.mg X.base (L2.CX X.prog X.w) k f fd ps (spG X.kw 2 g)) (hr : Room (k + 2) X.A) (hb : Binds X.K fd ps []) (ha : FE X W a fa) (hb' : FE X W b fb) (hm : behindInMarks .In b = false) : FT X W (.Compare a [.In] [b] pos) (sB (sInOwn C g fa fb)) := by
  obtain ⟨ta, pa, sa⟩ := ha.ex
  obtain ⟨tb, pb, sb⟩ := hb'.ex
  refine ⟨_, pt_cmpR (op_inOwn T hS G hr hb passL) pa pb hm, fun σ ss F as S H Q o S' hr s h c => ?_⟩
  refine step (T := tOp _ ta tb σ H) (Rl := fun F' as' v x => VRel X.kw F' as' v x) (fun Q o S' h c => inOwn_ok sa sb σ ss F as S H Q o S' hr s h c) h c ?_
  intro x S1 F1 as1 H1 v h1 e1 s1 rv c1
  exact asB_ok s1 rv h1 c1
theorem fe_ixOwn {o e : Expr} {fo : Sl → MM SV} {ga : Sl → MM (List SV)} {apos cpos : Pos} (T : OwnC X.K (X.kw.cm C) f fs fl) (hS : PySem.W.subIn X.K (.ref (X.kw.cm C)) (.type "str") = some false ∧ PySem.W.subIn X.K (.ref (X.kw.cm C)) (.type "NoneType") = some false) (G : FnOk X.prog X.w X.K X.mg X.base (L2.CX X.prog X.w) k f fd ps (spG X.kw 2 g)) (hr : Room (k + 2) X.A) (hb : Binds X.K fd ps []) (ho : FE X W o fo) (ha : FA X W [e] ga) (hbase : attributeBase o "index" X.env (eval o X.env) = eval o X.env := by rfl)
    (hfew : ((backTo cpos (starEach [e] X.env)).all (fun x => !x.1) && (backToKw cpos (keywordEach [] X.env)).all (fun x => x.1.isSome)
      && decide ([e].length + ([] : List Keyword).length + (if ([] : List Keyword).isEmpty then 0 else 1) < 30)) = true := by rfl)
    (hline : (apos.endLine == cpos.line) = true := by rfl) (hst : starEach [e] X.env = (false, eval e X.env) :: starEach [] X.env := by rfl) (hplain : (backTo cpos (starEach [] X.env)).any (·.1) = false := by rfl) :
    FE X W (.Call (.Attribute o "index" apos) [e] [] cpos) (sIxOwn C g fo ga) := by
  obtain ⟨to, po, so⟩ := ho.ex
  obtain ⟨ta, pa', sa⟩ := ha.ex
  refine ⟨_, pe_bm PySem.F.plainAttrs_list PySem.F.slot_list_index PySem.F.type_list_index (mt_indexOwn T hS G hr hb passL) po pa' hbase hfew hline hst hplain, fun σ ss F as S H Q ou S' hr s h cn => ?_⟩
  refine step (T := to σ H) (Rl := VR X) (fun Q o S' h c => so σ ss F as S H Q o S' hr s h c) h cn ?_
  intro x S1 F1 as1 H1 v h1 e1 s1 rv c1
  split at h1
  · rename_i ds
    refine ⟨tyM_ok (T := "list") (d := .lst ds) (.fz rv) s1.ff rfl, ?_⟩
    refine step (T := ta σ H1) (Rl := fun F' as' v x => VsRel X.kw F' as' v x) (fun Q o S' h c => sa σ ss F1 as1 S1 H1 Q o S' (hr.mono e1) s1 h c) h1 c1 ?_
    intro xs S2 F2 as2 H2 vs h2 e2 s2 rvs c2
    unfold ixOwn at h2
    split at h2
    · rename_i ds' y he
      cases he
      split at h2
      · rename_i hc
        obtain ⟨hc, hlen⟩ := hc
        cases hl : loopD C g S2 y (fun i => .int (i : Nat)) none ds 0 with
        | none => rw [hl] at h2; cases h2
        | some z =>
          rw [hl] at h2
          cases h2
          cases rvs with
          | cons rx rt =>
            cases rt
            obtain ⟨b, dx, flds, eb, hb⟩ := isOwn_ok s2 rx hc
            subst eb
            have rv2 := rv.mono e2
            cases rv2 with
            | @lst l ws _ hh rr =>
              exact ⟨l, ws, _, ds.length + 1, rfl, rfl, by rw [rr.length]; exact hlen, loop_ok hc (fun d e => by cases e) (fun i F => .int _) ds 0 F2 as2 H2 z s2 hh rr rx ⟨[], rfl, rfl⟩ hl fun F' as' H' v e s' r => c2 F' as' H' e s' _ r⟩
      · cases h2
    · cases h2
  · cases h1
end
section
variable {X : Cx} {W : WX} {e : Expr} {fa : Sl → MM (List SV)} {p pos : Pos}
theorem fe_sortedL (hg : Gl X "sorted") (hm : X.mg "sorted" = none) (ha : FA X W [e] fa) (hc : X.calm = true := by rfl) (he : starEach [e] X.env = (false, eval e X.env) :: starEach [] X.env := by rfl) (hpl : (backTo pos (starEach [] X.env)).any (·.1) = false := by rfl) : FE X W (.Call (.Name "sorted" p) [e] [] pos) (bN true (on1 dSort) fa) := fe_callB true (callR_or (FwS.cr_sortSet hc) cr_sortedS) snd_sort hg hm PyProof.Rows.boot_sorted ha (by decide) (by decide) he hpl
end
end FW

set_option Elab.async false
set_option linter.all false
set_option maxRecDepth 100000
set_option maxHeartbeats 1000000
/-! FW, part V: instances that live: methods, defs whose cells stay, x.f op= e, items of live lists. -/
namespace FW
open PySem PySem.Spec PyProof.Rows L2 FwR
/-! ### a def whose cells stay -/
noncomputable def runK (nl : Nat) (g : SM) : Fn := fun xs S => match g (xs.map some ++ List.replicate (nl - xs.length) none) S with
  | some (.rt x, S1) => some (.ok x, S1)
  | some (.nx _, S1) => some (.ok (.sh .non), S1)
  | some (.er x _, S1) => some (.er x, S1)
  | _ => none
theorem fn_okK {P : Program} {w : World} {K : PySem.W.Frag} {mg : Str → Option Value} {base : Heap} {x qual : Str} {st : Stmt} {f : Addr} {fd : FuncData} {N ps : List Str} {k : Nat} {g : SM} (F : Fun K x qual st f fd) (Sc : FnScope N ps (defScope st))
    (h : ∀ (cdv : Value) (A : Around) (outer : List Env) (s : Shared) (H : Hp) (E : XK), Room k (A.deeper (envOfC qual (defScope st) s.heap.objs.size f cdv)) →
      FSs (cxOf (L2.CX P w) P w K mg base N qual (defScope st) f cdv A outer s H E) (fun cls d _ H => E cls d H) (defBody st) g) : FnOk P w K mg base (L2.CX P w) (k + 1) f fd ps (spG ⟨K, P, w⟩ ps.length (runK N.length g)) := by
  refine F.okX Sc (fun vs H Q E => spG_len vs H Q E) fun cdv A outer s H vs Q E hr hsp => ?_
  obtain ⟨t, pt, snd⟩ := (h cdv A outer s H E hr).ex
  refine ⟨t, pt, ?_⟩
  obtain ⟨F0, as, S, xs, o, S', sr, rv, hl, hg, cn⟩ := hsp
  unfold runK at hg
  cases hq : g (xs.map some ++ List.replicate (N.length - xs.length) none) S with
  | none => rw [hq] at hg; cases hg
  | some q =>
    obtain ⟨o1, S1⟩ := q
    refine snd _ _ F0 as S H _ o1 S1 (start_rel N rv) sr hq fun F1 as1 H1 e1 s1 => ?_
    rw [hq] at hg
    cases o1 with
    | rt y =>
      intro v rv1
      cases hg
      exact cn F1 as1 H1 e1 s1 v rv1
    | nx ρ =>
      intro σ1 r1
      cases hg
      exact cn F1 as1 H1 e1 s1 .non (show VRel ⟨K, P, w⟩ F1 as1 .non (.sh .non) from .non)
    | er y ρ =>
      intro σ1 c d r1 hx
      cases hg
      exact cn F1 as1 H1 e1 s1 c d hx
    | bk ρ => cases hg
    | ct ρ => cases hg
/-! ### methods of instances that live -/
def freeC (C : String) (m : Str) (S : Store) : SV → Bool
  | .cl k => match S[k]? with
    | some (.ins C' ns _) => decide (C' = C) && decide (m ∉ ns)
    | _ => false
  | x => freeOf C m x
theorem zip_free {α : Type} {m : Str} : ∀ {ns : List Str} {vs : List α}, m ∉ ns → (ns.zip vs).lookup m = none
  | [], _, _ => by simp
  | n :: ns, [], _ => by simp
  | n :: ns, v :: vs, h => by
    rw [List.mem_cons, not_or] at h
    rw [List.zip_cons_cons, List.lookup_cons]
    have : (m == n) = false := by simpa using h.1
    rw [this]
    exact zip_free h.2
theorem freeC_ok {K : KW} {F H : Hp} {as : AS} {S : Store} {C : String} {m : Str} {v : V} {x : SV} (s : SRel K F as S H) (r : VRel K F as v x) (h : freeC C m S x = true) : ∃ a dx fs, v = .ref a ∧ H a = some (.ins (K.cm C) dx fs) ∧ fs.lookup m = none := by
  unfold freeC at h
  split at h
  · rename_i k
    split at h
    · rename_i C' ns xs hk
      rw [Bool.and_eq_true] at h
      have e : C' = C := of_decide_eq_true h.1
      have hm : m ∉ ns := of_decide_eq_true h.2
      subst e
      obtain ⟨a, ha, rfl⟩ := r
      obtain ⟨fa, dx, vs, hH, hl, rr⟩ := s.cell k a _ ha hk
      exact ⟨a, dx, _, rfl, hH, zip_free hm⟩
    · cases h
  · exact freeOf_ok s r h
def sMeth (C : String) (m : Str) (ar : Nat) (g : Fn) (f : Sl → MM SV) (ga : Sl → MM (List SV)) : Sl → MM SV := fun ss => MM.bind (f ss) fun x S => if freeC C m S x = true then MM.bind (ga ss) (fun xs S => if xs.length + 1 = ar then (match g (x :: xs) S with
  | some (.ok y, S1) => some (.ok y, S1)
  | _ => none) else none) S else none
section
variable {X : Cx} {W : WX} {C : String}
theorem fe_meth {f : Addr} {fd : FuncData} {ps : List Str} {k ar : Nat} {g : Fn} {m : Str} {o e : Expr} {es : List Expr} {fo : Sl → MM SV} {ga : Sl → MM (List SV)} {apos pos : Pos} {pl : Sem Bool} (ho : FE X W o fo) (c : Cls X.K (X.kw.cm C)) (hm : Meth X.K (X.kw.cm C) m f) (G : FnOk X.prog X.w X.K X.mg X.base (L2.CX X.prog X.w) k f fd ps (spG X.kw ar g)) (hr : Room k X.A) (hb : Binds X.K fd ps []) (ha : FA X W (e :: es) ga)
    (hst : starEach (e :: es) X.env = (false, eval e X.env) :: starEach es X.env := by rfl) (hpl : (backTo pos (starEach es X.env)).any (·.1) = false := by rfl)
    (ht : eval (.Call (.Attribute o m apos) (e :: es) [] pos) X.env = (do
      let ov ← eval o X.env
      standAt apos.atName
      let (f, first) ← holding [ov] (getMethod ov m pl)
      callWith pos f first (backTo pos (starEach (e :: es) X.env)) (backToKw pos (keywordEach [] X.env))) := by rfl) : FE X W (.Call (.Attribute o m apos) (e :: es) [] pos) (sMeth C m ar g fo ga) := by
  obtain ⟨to, po, so⟩ := ho.ex
  obtain ⟨ta, pa, sa⟩ := ha.ex
  refine ⟨_, pe_meth (E := E0) po c hm G hr hb .nil passL pa hst hpl ht, fun σ ss F as S H Q o S' hr s h c => ?_⟩
  refine step (T := to σ H) (Rl := VR X) (fun Q o S' h c => so σ ss F as S H Q o S' hr s h c) h c ?_
  intro x S1 F1 as1 H1 v h1 e1 s1 rv c1
  split at h1
  · rename_i hf
    obtain ⟨a, dx, fs, rfl, ha, hn⟩ := freeC_ok s1 rv hf
    refine ⟨a, dx, fs, rfl, ha, hn, ?_⟩
    refine step (T := ta σ H1) (Rl := fun F' as' v x => VsRel X.kw F' as' v x) (fun Q o S' h c => sa σ ss F1 as1 S1 H1 Q o S' (hr.mono e1) s1 h c) h1 c1 ?_
    intro xs S2 F2 as2 H2 vs h2 e2 s2 rvs c2
    split at h2
    · rename_i hl
      split at h2
      · rename_i y S3 hg
        cases h2
        refine ⟨F2, as2, S2, x :: xs, _, _, s2, .cons (rv.mono e2) (by rw [List.append_nil]; exact rvs), by simpa using hl, hg, fun F3 as3 H3 e3 s3 z rz => c2 F3 as3 H3 e3 s3 z rz⟩
      · cases h2
    · cases h2
  · cases h1
theorem fe_methN {f : Addr} {fd : FuncData} {ps : List Str} {k : Nat} {g : Fn} {m : Str} {o : Expr} {fo : Sl → MM SV} {apos pos : Pos} {pl : Sem Bool} (ho : FE X W o fo) (c : Cls X.K (X.kw.cm C)) (hm : Meth X.K (X.kw.cm C) m f) (G : FnOk X.prog X.w X.K X.mg X.base (L2.CX X.prog X.w) k f fd ps (spG X.kw 1 g)) (hr : Room k X.A) (hb : Binds X.K fd ps [])
    (ht : eval (.Call (.Attribute o m apos) [] [] pos) X.env = (do
      let ov ← eval o X.env
      standAt apos.atName
      let (f, first) ← holding [ov] (getMethod ov m pl)
      callWith pos f first (backTo pos (starEach [] X.env)) (backToKw pos (keywordEach [] X.env))) := by rfl) : FE X W (.Call (.Attribute o m apos) [] [] pos) (sMeth C m 1 g fo aNil) := by
  obtain ⟨to, po, so⟩ := ho.ex
  refine ⟨_, pe_meth0 (E := E0) po c hm G hr hb .nil passL ht, fun σ ss F as S H Q o S' hr s h c => ?_⟩
  refine step (T := to σ H) (Rl := VR X) (fun Q o S' h c => so σ ss F as S H Q o S' hr s h c) h c ?_
  intro x S1 F1 as1 H1 v h1 e1 s1 rv c1
  split at h1
  · rename_i hf
    obtain ⟨a, dx, fs, rfl, ha, hn⟩ := freeC_ok s1 rv hf
    have h2 : (match g [x] S1 with
      | some (.ok y, S1) => some (Ou.ok y, S1)
      | _ => none) = some (_, _) := h1
    split at h2
    · rename_i y S2 hg
      cases h2
      refine ⟨a, dx, fs, rfl, ha, hn, F1, as1, S1, [x], _, _, s1, .cons rv .nil, rfl, hg, fun F3 as3 H3 e3 s3 z rz => c1 F3 as3 H3 e3 s3 z rz⟩
    · cases h2
  · cases h1
/-! ### x.f op= e -/
def gFAug (C : String) (f : Str) (g : D → D → Option An) (go gv : Sl → MM SV) : SM := exS go fun x ss S => match x with
  | .cl k => match S[k]? with
    | some (.ins C' ns xs) => if C' = C then (match (ns.zip xs).lookup f with
      | some v => exS gv (fun y => exS (fun _ => s2 false g v y) fun z ss S => match putC C f z (.cl k) S with
        | some S1 => some (.nx ss, S1)
        | none => none) ss S
      | none => none) else none
    | _ => none
  | _ => none
theorem put_ok {K : KW} {F H : Hp} {as : AS} {S S3 : Store} {C : String} {f : Str} {x y : SV} {v w : V} (s : SRel K F as S H) (rx : VRel K F as w x) (ry : VRel K F as v y) (h : putC C f y x S = some S3) :
    ∃ a dx fs, w = .ref a ∧ H a = some (.ins (K.cm C) dx fs) ∧ fs.length < 1000 ∧ SRel K F as S3 (upd H a (.ins (K.cm C) dx (putF f v fs))) := by
  unfold putC at h
  split at h
  · rename_i k
    split at h
    · rename_i C' ns xs hk
      split at h
      · rename_i hc
        obtain ⟨eC, hl⟩ := hc
        subst eC
        cases h
        obtain ⟨a, ha, rfl⟩ := rx
        obtain ⟨fa, dx, vs, hH, hlen, rr⟩ := s.cell k a _ ha hk
        obtain ⟨z1, z2⟩ := putN_zip (f := f) (y := v) hlen
        refine ⟨a, dx, _, rfl, hH, by rw [List.length_zip]; omega, ?_⟩
        refine s.write ha fa ⟨fa, dx, (putN f v ns vs).2, ?_, ?_, putN_rel ry rr⟩
        · rw [upd_same, z1, putN_ns (z := y) (xs := xs) (Paired.length rr)]
        · rw [← putN_ns (y := v) (vs := vs) (Paired.length rr)]; exact z2
      · cases h
    · cases h
  · cases h
theorem fs_faug {f : Str} {o value : Expr} {go gv : Sl → MM SV} {op : Operator} {r : R2} {g : D → D → Option An} {pos pos' : Pos} (hC : Cls X.K (X.kw.cm C)) (hn : NoAttr X.K (X.kw.cm C) f) (ho : FE X W o go) (hv : FE X W value gv) (hop : OpR X (inplaceOp op) r) (hs : Snd2 X.kw r g) : FS X W (.AugAssign (.Attribute o f pos') op value pos) (gFAug C f g go gv) := by
  obtain ⟨to, po, so⟩ := ho.ex
  obtain ⟨tv, pv, sv⟩ := hv.ex
  refine ⟨_, ps_fldaug (rd := r) po pv hop, fun σ ss F as S H Dd ou S' hr s h c => ?_⟩
  refine stepS (T := to σ H) (Rl := VR X) (fun Q o S' h c => so σ ss F as S H Q o S' hr s h c) hr h c ?_
  intro x S1 F1 as1 H1 w h1 e1 s1 rw' c1 r1
  split at h1
  · rename_i k
    split at h1
    · rename_i C' ns xs hk
      split at h1
      · rename_i eC
        subst eC
        split at h1
        · rename_i v0 hv0
          obtain ⟨a, ha, rfl⟩ := rw'
          obtain ⟨fa, dx, vs, hH, hl, rr⟩ := s1.cell k a _ ha hk
          obtain ⟨w0, hw0, rw0⟩ := zip_look rr hv0
          refine ⟨a, X.kw.cm C', dx, _, w0, rfl, hH, hC, hn, hw0, ?_⟩
          refine stepS (T := tv σ H1) (Rl := VR X) (fun Q o S' h c => sv σ ss F1 as1 S1 H1 Q o S' r1 s1 h c) r1 h1 c1 ?_
          intro y S2 F2 as2 H2 wy h2 e2 s2 ry c2 r2
          refine stepS (T := fun R => r w0 wy H2 R) (Rl := VR X) (fun Q o S' h c => s2_ok hs s2 (rw0.mono e2) ry h c) r2 h2 c2 ?_
          intro z S3 F3 as3 H3 wz h3 e3 s3 rz c3 r3
          split at h3
          · rename_i S4 h4
            cases h3
            have ha3 : as3.l[k]? = some a := e3.get (e2.get ha)
            obtain ⟨a', dx', fs', ea, hH', hlen, s4⟩ := put_ok s3 (w := .ref a) (x := .cl k) ⟨a, ha3, rfl⟩ rz h4
            cases ea
            exact ⟨dx', fs', hH', hlen, c3 F3 as3 _ (Ext.refl _ _) s4 σ r3⟩
          · cases h3
        · cases h1
      · cases h1
    · cases h1
  · cases h1
/-! ### items and length of a list that lives -/
theorem Paired.at' {α β : Type} {R : α → β → Prop} : ∀ {xs : List α} {ys : List β} {i : Nat} {y : β}, Paired R xs ys → ys[i]? = some y → ∃ x, xs[i]? = some x ∧ R x y
  | _, _, i, y, .nil, h => by simp at h
  | _, _, 0, y, .cons a r, h => by
    simp only [List.getElem?_cons_zero, Option.some.injEq] at h
    subst h
    exact ⟨_, by simp, a⟩
  | _, _, i + 1, y, .cons a r, h => by
    simp only [List.getElem?_cons_succ] at h
    obtain ⟨x, hx, hr⟩ := Paired.at' r h
    exact ⟨x, by simpa using hx, hr⟩
theorem atI_rel {K : KW} {F : Hp} {as : AS} {vs : List V} {xs : List SV} {n : Int} {y : SV} (r : VsRel K F as vs xs) (h : atI xs n = some y) : ∃ v, atI vs n = some v ∧ VRel K F as v y := by
  unfold atI at h ⊢
  rw [Paired.length r]
  cases hj : ixN xs.length n with
  | none => rw [hj] at h; cases h
  | some j =>
    rw [hj] at h
    exact Paired.at' r h
def ixC (x i : SV) : MM SV := fun S => match cellL S x, i with
  | some (_, xs), .sh (.int n) => (atI xs n).map fun y => (.ok y, S)
  | _, _ => none
def sIxC (f k : Sl → MM SV) : Sl → MM SV := fun ss => MM.bind (f ss) fun x => MM.bind (k ss) fun i => ixC x i
theorem fe_ixC {a b : Expr} {fa fb : Sl → MM SV} {pos : Pos} (ha : FE X W a fa) (hb : FE X W b fb) (hp : PlainIx b := by exact fun _ _ => rfl) : FE X W (.Subscript a b pos) (sIxC fa fb) := by
  obtain ⟨ta, pa, sa⟩ := ha.ex
  obtain ⟨tb, pb, sb⟩ := hb.ex
  refine ⟨_, pe_ix ix_list pa pb hp, fun σ ss F as S H Q o S' hr s h cn => ?_⟩
  refine step (T := ta σ H) (Rl := fun F' as' v x => VRel X.kw F' as' v x) (fun Q o S' h c => sa σ ss F as S H Q o S' hr s h c) h cn ?_
  intro x S1 F1 as1 H1 v h1 e1 s1 rv c1
  refine step (T := tb σ H1) (Rl := fun F' as' v x => VRel X.kw F' as' v x) (fun Q o S' h c => sb σ ss F1 as1 S1 H1 Q o S' (hr.mono e1) s1 h c) h1 c1 ?_
  intro y S2 F2 as2 H2 w h2 e2 s2 rw' c2
  unfold ixC at h2
  split at h2
  · rename_i k xs n hc
    obtain ⟨a, vs, rfl, ha', fa, hH, rr⟩ := cellL_ok s2 (rv.mono e2) hc
    cases hy : atI xs n with
    | none => rw [hy] at h2; cases h2
    | some y =>
      rw [hy] at h2; cases h2
      obtain ⟨v0, hv0, r0⟩ := atI_rel rr hy
      cases (show w = V.int n from Rep.int_of rw')
      exact ⟨a, vs, n, v0, rfl, rfl, SqL.of hH, hv0, c2 F2 as2 H2 (Ext.refl _ _) s2 _ r0⟩
  · cases h2
def lenC (xs : List SV) : MM SV := fun S => match xs with
  | [x] => match cellL S x with
    | some (_, ys) => some (.ok (.sh (.int ys.length)), S)
    | none => none
  | _ => none
def sLenC (ga : Sl → MM (List SV)) : Sl → MM SV := fun ss => MM.bind (ga ss) lenC
theorem fe_lenC {e : Expr} {fa : Sl → MM (List SV)} {p pos : Pos} (hg : Gl X "len") (hm : X.mg "len" = none) (ha : FA X W [e] fa) (he : starEach [e] X.env = (false, eval e X.env) :: starEach [] X.env := by rfl) (hpl : (backTo pos (starEach [] X.env)).any (·.1) = false := by rfl) : FE X W (.Call (.Name "len" p) [e] [] pos) (sLenC fa) := by
  obtain ⟨ta, pa, sa⟩ := ha.ex
  refine ⟨_, pe_callB call_len hg hm boot_len pa (by decide) (by decide) he hpl, fun σ ss F as S H Q o S' hr s h cn => ?_⟩
  refine step (T := ta σ H) (Rl := fun F' as' v x => VsRel X.kw F' as' v x) (fun Q o S' h c => sa σ ss F as S H Q o S' hr s h c) h cn ?_
  intro xs S1 F1 as1 H1 vs h1 e1 s1 rv c1
  unfold lenC at h1
  split at h1
  · rename_i x
    split at h1
    · rename_i k ys hc
      cases h1
      cases rv with
      | cons r0 rt =>
        cases rt
        obtain ⟨a, ws, rfl, ha', fa, hH, rr⟩ := cellL_ok s1 r0 hc
        refine ⟨_, ys.length, rfl, ?_, c1 F1 as1 H1 (Ext.refl _ _) s1 _ (.int _)⟩
        rw [← Paired.length rr]
        exact .inl ⟨ws, SqL.of hH, rfl⟩
    · cases h1
  · cases h1
/-! ### l[i] op= e -/
theorem get_list : PGet X (rIxL X.K) := by
  intro pins s σ H x y v u Q I rx ry h
  obtain ⟨p, xs, i, z, rfl, rfl, hq, he, q⟩ := h
  cases rx
  obtain ⟨t, rfl⟩ := ry
  obtain ⟨its, r, pl, hz⟩ := I.list hq
  obtain ⟨j, h1, h2, h3, h4, h5⟩ := atI_get he
  obtain ⟨w, ew, rw'⟩ := r.get h2
  have hl := r.length
  have hn := line63
  have fin : EP X pins σ Q w s := ⟨z, H, I, rw', q⟩
  by_cases h0 : 0 ≤ i
  · have hj : i.toNat = j := by
      rw [seqIndex_of h0 h5] at h1
      exact Option.some.inj h1
    exact wpAny_getItem_list pl.isList h0 (by omega) (by rw [hj]; simpa using ew) fin
  · have hj : (i + (its.toArray.size : Int)).toNat = j := by
      rw [seqIndex_neg (by omega) h4] at h1
      rw [List.size_toArray, ← hl]
      exact Option.some.inj h1
    exact wpAny_getItem_list_neg pl.isList (by omega) (by rw [List.size_toArray] <;> omega) (by omega) (by rw [hj]; simpa using ew) fin
def gSAug (g : D → D → Option An) (go gi gv : Sl → MM SV) : SM := exS go fun x => exS gi fun i ss S => match cellL S x, i with
  | some (_, xs), .sh (.int n) => match atI xs n with
    | some v => exS gv (fun y => exS (fun _ => s2 false g v y) fun z ss S => match setI x i z S with
      | some S1 => some (.nx ss, S1)
      | none => none) ss S
    | none => none
  | _, _ => none
theorem fs_saug {o i value : Expr} {go gi gv : Sl → MM SV} {op : Operator} {r : R2} {g : D → D → Option An} {pos tpos : Pos} (ho : FE X W o go) (hi : FE X W i gi) (hv : FE X W value gv) (hop : OpR X (inplaceOp op) r) (hs : Snd2 X.kw r g)
    (ha : ∀ ov iv new, augStore i ov iv new = (do holding [new, ov, iv] (setItem ov iv new); release [new, ov, iv] []; pure .next) := by intros; rfl) : FS X W (.AugAssign (.Subscript o i tpos) op value pos) (gSAug g go gi gv) := by
  obtain ⟨to, po, so⟩ := ho.ex
  obtain ⟨ti, pi, si⟩ := hi.ex
  obtain ⟨tv, pv, sv⟩ := hv.ex
  refine ⟨_, ps_augS po pi get_list pv hop set_list ha, fun σ ss F as S H Dd ou S' hr s h c => ?_⟩
  refine stepS (T := to σ H) (Rl := VR X) (fun Q o S' h c => so σ ss F as S H Q o S' hr s h c) hr h c ?_
  intro x S1 F1 as1 H1 w h1 e1 s1 rw' c1 r1
  refine stepS (T := ti σ H1) (Rl := VR X) (fun Q o S' h c => si σ ss F1 as1 S1 H1 Q o S' r1 s1 h c) r1 h1 c1 ?_
  intro j S2 F2 as2 H2 wi h2 e2 s2 ri c2 r2
  split at h2
  · rename_i k xs n hc
    split at h2
    · rename_i v0 hv0
      have rx2 := VRel.mono e2 rw'
      obtain ⟨a, vs, rfl, ha', fa, hH, rr⟩ := cellL_ok s2 rx2 hc
      obtain ⟨w0, hw0, r0⟩ := atI_rel rr hv0
      cases (show wi = V.int n from Rep.int_of ri)
      refine ⟨a, vs, n, w0, rfl, rfl, SqL.of hH, hw0, ?_⟩
      refine stepS (T := tv σ H2) (Rl := VR X) (fun Q o S' h c => sv σ ss F2 as2 S2 H2 Q o S' r2 s2 h c) r2 h2 c2 ?_
      intro y S3 F3 as3 H3 wy h3 e3 s3 ry c3 r3
      refine stepS (T := fun R => r w0 wy H3 R) (Rl := VR X) (fun Q o S' h c => s2_ok hs s3 (r0.mono e3) ry h c) r3 h3 c3 ?_
      intro z S4 F4 as4 H4 wz h4 e4 s4 rz c4 r4
      split at h4
      · rename_i S5 h5
        cases h4
        obtain ⟨p, ys, kk, jj, q1, q2, q3, q4, s5⟩ := setI_ok s4 ((rx2.mono e3).mono e4) ((ri.mono e3).mono e4) rz h5
        exact ⟨p, ys, kk, jj, q1, q2, q3, q4, c4 F4 as4 _ (Ext.refl _ _) s5 σ r4⟩
      · cases h4
    · cases h2
  · cases h2
/-! ### dicts that live -/
def dctL (S : Store) : SV → Option (Nat × List Key × List SV)
  | .cl k => match S[k]? with
    | some (.dct ks xs) => some (k, ks, xs)
    | _ => none
  | _ => none
theorem dctL_ok {K : KW} {F H : Hp} {as : AS} {S : Store} {v : V} {x : SV} {k : Nat} {ks : List Key} {xs : List SV} (s : SRel K F as S H) (r : VRel K F as v x) (h : dctL S x = some (k, ks, xs)) :
    ∃ a vs, v = .ref a ∧ as.l[k]? = some a ∧ F a = none ∧ H a = some (.dK (ks.zip vs)) ∧ ks.length = vs.length ∧ VsRel K F as vs xs := by
  unfold dctL at h
  split at h
  · rename_i j
    split at h
    · rename_i ys zs hy
      cases h
      obtain ⟨a, ha, rfl⟩ := r
      obtain ⟨f, vs, hH, hl, rr⟩ := s.cell _ a _ ha hy
      exact ⟨a, vs, rfl, ha, f, hH, hl, rr⟩
    · cases h
  · cases h
def valX : List Key → List SV → Key → Option SV
  | k :: ks, x :: xs, j => if k = j then some x else valX ks xs j
  | _, _, _ => none
theorem valX_ok {K : KW} {F : Hp} {as : AS} {j : Key} : ∀ {ks : List Key} {vs : List V} {xs : List SV}, ks.length = vs.length → VsRel K F as vs xs → (valX ks xs j = none → valV (ks.zip vs) j = none) ∧ ∀ y, valX ks xs j = some y → ∃ v, valV (ks.zip vs) j = some v ∧ VRel K F as v y
  | [], [], _, _, .nil => ⟨fun _ => rfl, fun y h => by cases h⟩
  | k :: ks, v :: vs, x :: xs, hl, .cons r rr => by
    have ih := valX_ok (j := j) (ks := ks) (by simpa using hl) rr
    by_cases c : k = j
    · subst c
      refine ⟨fun h => by simp [valX] at h, fun y h => ?_⟩
      have : x = y := by simpa [valX] using h
      subst this
      exact ⟨v, valV_pos (p := (k, v)) rfl, r⟩
    · have e : valV ((k :: ks).zip (v :: vs)) j = valV (ks.zip vs) j := valV_neg (p := (k, v)) c
      have e' : valX (k :: ks) (x :: xs) j = valX ks xs j := by simp [valX, c]
      rw [e, e']
      exact ih
theorem putK_new {ks : List Key} {vs : List V} {k : Key} {v : V} (hl : ks.length = vs.length) (h : valV (ks.zip vs) k = none) : putK (ks.zip vs) k v = (ks ++ [k]).zip (vs ++ [v]) := by
  have : ((ks.zip vs).any fun kv => decide (kv.1 = k)) = false := by rw [valV_any, h]; rfl
  unfold putK
  rw [this, List.zip_append hl]
  simp
def sDNew : Sl → MM SV := fun _ S => some (.ok (.cl S.length), S ++ [.dct [] []])
theorem fe_dnew {pos : Pos} : FE X W (.Dict [] [] pos) sDNew := by
  refine ⟨_, pe_dnewK, fun σ ss F as S H Q o S' hr s h cn => ?_⟩
  cases h
  intro p hp
  have fp := s.fnone hp
  have s2 := s.newC (m := .dct [] []) hp (o := .dK []) ⟨fp, [], upd_same, rfl, .nil⟩
  refine cn F (as.snoc p) _ ⟨Same.refl F, ⟨[p], rfl⟩, rfl⟩ s2 _ ⟨p, ?_, rfl⟩
  show (as.l ++ [p])[S.length]? = some p
  rw [← s.len]; simp
def dget (x y z : SV) : MM SV := fun S => match dctL S x, y with
  | some (_, ks, xs), .sh (.str w) => some (.ok ((valX ks xs (.inr w)).getD z), S)
  | _, _ => none
def sDGet2 (f e d : Sl → MM SV) : Sl → MM SV := fun ss => MM.bind (f ss) fun x S => if (dctL S x).isSome = true then MM.bind (e ss) (fun y => MM.bind (d ss) fun z => dget x y z) S else none
theorem isD_of {K : KW} {F H : Hp} {as : AS} {S : Store} {v : V} {x : SV} (s : SRel K F as S H) (r : VRel K F as v x) (h : (dctL S x).isSome = true) : ∃ a, v = .ref a ∧ IsD H a := by
  cases q : dctL S x with
  | none => rw [q] at h; cases h
  | some t =>
    obtain ⟨k, ks, xs⟩ := t
    obtain ⟨a, vs, rfl, ha, fa, hH, hl, rr⟩ := dctL_ok s r q
    exact ⟨a, rfl, .inl ⟨_, Rd.of hH⟩⟩
theorem fe_dget2 {o e d : Expr} {f ge gd : Sl → MM SV} {apos cpos : Pos} (hu : X.A.units + 1 < cLine) (ho : FE X W o f) (he : FE X W e ge) (hd : FE X W d gd) (m : M2 X o "get" apos e d cpos := by exact ⟨rfl, rfl, rfl, rfl⟩) : FE X W (.Call (.Attribute o "get" apos) [e, d] [] cpos) (sDGet2 f ge gd) := by
  obtain ⟨to, po, so⟩ := ho.ex
  obtain ⟨te, pe, se⟩ := he.ex
  obtain ⟨td, pd, sd⟩ := hd.ex
  refine ⟨_, pe_dget2 hu po pe pd m, fun σ ss F as S H Q o S' hr s h cn => ?_⟩
  refine step (T := to σ H) (Rl := VR X) (fun Q o S' h c => so σ ss F as S H Q o S' hr s h c) h cn ?_
  intro x S1 F1 as1 H1 v h1 e1 s1 rv c1
  split at h1
  · rename_i hD
    obtain ⟨a, rfl, hI⟩ := isD_of s1 rv hD
    refine ⟨a, rfl, hI, ?_⟩
    refine step (T := te σ H1) (Rl := VR X) (fun Q o S' h c => se σ ss F1 as1 S1 H1 Q o S' (hr.mono e1) s1 h c) h1 c1 ?_
    intro y S2 F2 as2 H2 w h2 e2 s2 rw' c2
    refine step (T := td σ H2) (Rl := VR X) (fun Q o S' h c => sd σ ss F2 as2 S2 H2 Q o S' ((hr.mono e1).mono e2) s2 h c) h2 c2 ?_
    intro z S3 F3 as3 H3 wz h3 e3 s3 rz c3
    unfold dget at h3
    split at h3
    · rename_i k ks xs w0 hc
      cases h3
      obtain ⟨a', vs, ea, ha, fa, hH, hl, rr⟩ := dctL_ok s3 ((VRel.mono e2 rv).mono e3) hc
      cases ea
      cases (show w = V.str w0 from Rep.str_of (VRel.mono e3 rw'))
      obtain ⟨n1, n2⟩ := valX_ok (j := .inr w0) hl rr
      refine ⟨_, .inl ⟨_, .inr w0, Rd.of hH, rfl, rfl⟩, ?_⟩
      cases q : valX ks xs (.inr w0) with
      | none =>
        rw [n1 q]
        have c3' := c3
        rw [q] at c3'
        exact c3' F3 as3 H3 (Ext.refl _ _) s3 _ rz
      | some y0 =>
        obtain ⟨v0, e0, r0⟩ := n2 y0 q
        rw [e0]
        have c3' := c3
        rw [q] at c3'
        exact c3' F3 as3 H3 (Ext.refl _ _) s3 _ r0
    · cases h3
  · cases h1
def dsetd (x y z : SV) : MM SV := fun S => match dctL S x, y with
  | some (k, ks, xs), .sh (.str w) => if ks.length < sizeLine then (match valX ks xs (.inr w) with
    | some u => some (.ok u, S)
    | none => some (.ok z, S.set k (.dct (ks ++ [.inr w]) (xs ++ [z])))) else none
  | _, _ => none
def sDSetd (f e d : Sl → MM SV) : Sl → MM SV := fun ss => MM.bind (f ss) fun x S => if (dctL S x).isSome = true then MM.bind (e ss) (fun y => MM.bind (d ss) fun z => dsetd x y z) S else none
theorem paired_snoc {K : KW} {F : Hp} {as : AS} : ∀ {vs : List V} {xs : List SV} {v : V} {x : SV}, VsRel K F as vs xs → VRel K F as v x → VsRel K F as (vs ++ [v]) (xs ++ [x])
  | _, _, _, _, .nil, h => .cons h .nil
  | _, _, _, _, .cons a r, h => .cons a (paired_snoc r h)
theorem fe_dsetd {o e d : Expr} {f ge gd : Sl → MM SV} {apos cpos : Pos} (ho : FE X W o f) (he : FE X W e ge) (hd : FE X W d gd) (m : M2 X o "setdefault" apos e d cpos := by exact ⟨rfl, rfl, rfl, rfl⟩) : FE X W (.Call (.Attribute o "setdefault" apos) [e, d] [] cpos) (sDSetd f ge gd) := by
  obtain ⟨to, po, so⟩ := ho.ex
  obtain ⟨te, pe, se⟩ := he.ex
  obtain ⟨td, pd, sd⟩ := hd.ex
  refine ⟨_, pe_dsetd po pe pd m, fun σ ss F as S H Q o S' hr s h cn => ?_⟩
  refine step (T := to σ H) (Rl := VR X) (fun Q o S' h c => so σ ss F as S H Q o S' hr s h c) h cn ?_
  intro x S1 F1 as1 H1 v h1 e1 s1 rv c1
  split at h1
  · rename_i hD
    obtain ⟨a, rfl, hI⟩ := isD_of s1 rv hD
    refine ⟨a, rfl, hI, ?_⟩
    refine step (T := te σ H1) (Rl := VR X) (fun Q o S' h c => se σ ss F1 as1 S1 H1 Q o S' (hr.mono e1) s1 h c) h1 c1 ?_
    intro y S2 F2 as2 H2 w h2 e2 s2 rw' c2
    refine step (T := td σ H2) (Rl := VR X) (fun Q o S' h c => sd σ ss F2 as2 S2 H2 Q o S' ((hr.mono e1).mono e2) s2 h c) h2 c2 ?_
    intro z S3 F3 as3 H3 wz h3 e3 s3 rz c3
    unfold dsetd at h3
    split at h3
    · rename_i k ks xs w0 hc
      split at h3
      · rename_i hz
        obtain ⟨a', vs, ea, ha, fa, hH, hl, rr⟩ := dctL_ok s3 ((VRel.mono e2 rv).mono e3) hc
        cases ea
        cases (show w = V.str w0 from Rep.str_of (VRel.mono e3 rw'))
        obtain ⟨n1, n2⟩ := valX_ok (j := .inr w0) hl rr
        refine ⟨_, .inr w0, hH, rfl, by rw [List.length_zip]; omega, fun v hv => ?_, fun hv => ?_⟩
        · cases q : valX ks xs (.inr w0) with
          | none => rw [n1 q] at hv; cases hv
          | some y0 =>
            obtain ⟨v0, e0, r0⟩ := n2 y0 q
            rw [e0] at hv; cases hv
            simp only [q] at h3; cases h3
            exact c3 F3 as3 H3 (Ext.refl _ _) s3 _ r0
        · cases q : valX ks xs (.inr w0) with
          | some y0 =>
            obtain ⟨v0, e0, r0⟩ := n2 y0 q
            rw [e0] at hv; cases hv
          | none =>
            simp only [q] at h3; cases h3
            rw [putK_new hl hv]
            refine c3 F3 as3 _ (Ext.refl _ _) (s3.write ha fa ⟨fa, vs ++ [wz], upd_same, by simp [hl], paired_snoc rr rz⟩) _ rz
      · cases h3
    · cases h3
  · cases h1
def dixC (x y : SV) : MM SV := fun S => match dctL S x, y with
  | some (_, ks, xs), .sh (.str w) => (valX ks xs (.inr w)).map fun u => (.ok u, S)
  | _, _ => none
def sDIxC (f k : Sl → MM SV) : Sl → MM SV := fun ss => MM.bind (f ss) fun x => MM.bind (k ss) fun i => dixC x i
theorem fe_dixC {a b : Expr} {fa fb : Sl → MM SV} {pos : Pos} (hu : X.A.units + 1 < cLine) (ha : FE X W a fa) (hb : FE X W b fb) (hs : NoSl b := by exact fun _ _ => rfl) : FE X W (.Subscript a b pos) (sDIxC fa fb) := by
  obtain ⟨ta, pa, sa⟩ := ha.ex
  obtain ⟨tb, pb, sb⟩ := hb.ex
  refine ⟨_, pe_dget hu pa pb hs, fun σ ss F as S H Q o S' hr s h cn => ?_⟩
  refine step (T := ta σ H) (Rl := fun F' as' v x => VRel X.kw F' as' v x) (fun Q o S' h c => sa σ ss F as S H Q o S' hr s h c) h cn ?_
  intro x S1 F1 as1 H1 v h1 e1 s1 rv c1
  refine step (T := tb σ H1) (Rl := fun F' as' v x => VRel X.kw F' as' v x) (fun Q o S' h c => sb σ ss F1 as1 S1 H1 Q o S' (hr.mono e1) s1 h c) h1 c1 ?_
  intro y S2 F2 as2 H2 w h2 e2 s2 rw' c2
  unfold dixC at h2
  split at h2
  · rename_i k ks xs w0 hc
    obtain ⟨a', vs, rfl, ha', fa, hH, hl, rr⟩ := dctL_ok s2 (rv.mono e2) hc
    cases (show w = V.str w0 from Rep.str_of rw')
    cases q : valX ks xs (.inr w0) with
    | none => rw [q] at h2; cases h2
    | some u =>
      rw [q] at h2; cases h2
      obtain ⟨v0, e0, r0⟩ := (valX_ok (j := .inr w0) hl rr).2 u q
      exact ⟨a', v0, rfl, .inl ⟨_, .inr w0, Rd.of hH, rfl, e0.symm⟩, c2 F2 as2 H2 (Ext.refl _ _) s2 _ r0⟩
  · cases h2
/-! ### l * n -/
def dRep : D → D → Option An
  | .lst ds, .int k => if -(2 ^ 63) ≤ k ∧ k < 2 ^ 63 ∧ ds.length * k.toNat ≤ sizeLine then some (.lst (List.replicate k.toNat ds).flatten) else none
  | _, _ => none
theorem RepL.rep {K : KW} {F : Hp} {vs : List V} {ds : List D} (r : RepL K F vs ds) : ∀ n : Nat, RepL K F (List.replicate n vs).flatten (List.replicate n ds).flatten
  | 0 => .nil
  | n + 1 => by
    rw [List.replicate_succ, List.replicate_succ, List.flatten_cons, List.flatten_cons]
    exact r.append (RepL.rep r n)
theorem snd_rep {K : KW} : Snd2 K rRep dRep := fun F H x y d e an Q s rx ry hg q => by
  unfold dRep at hg
  split at hg
  · split at hg
    · rename_i h
      cases hg
      obtain ⟨a, vs, rfl, ha, ra⟩ := rx.isLst s
      exact ⟨a, _, vs, rfl, ry.int, ha, h.1, h.2.1, by rw [ra.length]; exact h.2.2, fun p hp => q p _ hp (RepL.rep ra _)⟩
    · cases hg
  · cases hg
theorem fe_rep {a b : Expr} {fa fb : Sl → MM SV} {pos : Pos} (ha : FE X W a fa) (hb : FE X W b fb) : FE X W (.BinOp a .Mult b pos) (b2 false dRep fa fb) := fe_op false op_rep snd_rep ha hb
def dNeg : D → Option An
  | .int i => some (.val (.int (-i)))
  | _ => none
theorem snd_neg {K : KW} : Snd1 K (rU fun i => .int (-i)) dNeg := fun F H x d an Q s rx hg q => by
  unfold dNeg at hg
  split at hg
  · cases hg
    exact ⟨_, rx.int, q _ (.int _)⟩
  · cases hg
theorem fe_neg {a : Expr} {fa : Sl → MM SV} {pos : Pos} (ha : FE X W a fa) : FE X W (.UnaryOp .USub a pos) (b1 false dNeg fa) := fe_un un_neg snd_neg ha
end
end FW

set_option Elab.async false
set_option linter.all false
set_option maxRecDepth 100000
set_option maxHeartbeats 1000000
/-! FW, part W: dicts by ints and texts: a display of one pair, asked, looked up; max(x, default=d); reverse. -/
namespace FW
open PySem PySem.Spec PyProof.Rows L2 FwR
section
variable {K : KW} {F F' H H' : Hp} {as as' : AS} {S S' : Store} {v : V} {x : SV} {p : Addr} {o u : HO}
/-- what was kept aside becomes a cell -/
theorem SRel.hidC (s : SRel K F (as.hide p o) S H) (hn : as.g p = none) {m : MO} (hc : CRel K F (as.snoc p) (upd H p u) p m) : SRel K F (as.snoc p) (S ++ [m]) (upd H p u) := by
  obtain ⟨g1, g2, g3⟩ := s.gh p o hide_same
  have g3' : p ∉ as.l := g3
  have s1 := s.rehide (u := u)
  have hlen : as.l.length = S.length := s.len
  have hx : Ext F as F (as.snoc p) := ⟨Same.refl F, ⟨[p], rfl⟩, rfl⟩
  refine ⟨s1.ff, ?_, ?_, fun a ha => ?_, fun k a m' h1 h2 => ?_, fun a w e => ?_⟩
  · show (as.l ++ [p]).Nodup
    rw [List.nodup_append]
    exact ⟨s.nd, by simp, fun b hb c hc => by simp at hc; subst hc; exact fun z => g3' (by rw [← z]; exact hb)⟩
  · show (as.l ++ [p]).length = _
    simp [hlen]
  · rcases List.mem_append.mp ha with q | q
    · exact s1.there a q
    · simp at q; subst q; exact ⟨_, upd_same⟩
  · have h1 : (as.l ++ [p])[k]? = some a := h1
    by_cases hj : k < as.l.length
    · rw [List.getElem?_append_left hj] at h1
      rw [List.getElem?_append_left (by rw [← hlen]; exact hj)] at h2
      have c : CRel K F (as.hide p u) (upd H p u) a m' := s1.cell k a m' h1 h2
      cases m' with
      | lst xs => obtain ⟨f, vs, e, r⟩ := c; exact ⟨f, vs, e, VsRel.mono hx r⟩
      | ins C ns xs => obtain ⟨f, dx, vs, e, hl, r⟩ := c; exact ⟨f, dx, vs, e, hl, VsRel.mono hx r⟩
      | dct ks xs => obtain ⟨f, vs, e, hl, r⟩ := c; exact ⟨f, vs, e, hl, VsRel.mono hx r⟩
      | fro d => exact c
    · have hj' : as.l.length ≤ k := Nat.le_of_not_lt hj
      rw [List.getElem?_append_right hj'] at h1
      rw [List.getElem?_append_right (by rw [← hlen]; exact hj')] at h2
      rw [hlen] at h1
      cases q : k - S.length with
      | zero => rw [q] at h1 h2; simp at h1 h2; subst h1; subst h2; exact hc
      | succ n => rw [q] at h1; simp at h1
  · have hne : a ≠ p := fun z => by rw [z] at e; exact absurd (show as.g p = some w from e) (by rw [hn]; exact fun q => by cases q)
    obtain ⟨q1, q2, q3⟩ := s1.gh a w (by rw [hide_ne hne]; exact e)
    refine ⟨q1, q2, fun hm => ?_⟩
    rcases List.mem_append.mp hm with z | z
    · exact q3 z
    · simp at z; exact hne z
end
def keyS : SV → Option Key
  | .sh (.int i) => some (.inl i)
  | .sh (.str z) => some (.inr z)
  | _ => none
theorem keyS_ok {K : KW} {F : Hp} {as : AS} {v : V} {x : SV} {k : Key} (r : VRel K F as v x) (h : keyS x = some k) : v = kV k := by
  unfold keyS at h
  split at h
  · cases h; exact Rep.int_of r
  · cases h; exact Rep.str_of r
  · cases h
section
variable {X : Cx} {W : WX}
/-! ### {k: v} -/
def sD1 (fk fv : Sl → MM SV) : Sl → MM SV := fun ss S => match fk ss S with
  | some (.ok x, S1) => match fv ss S1 with
    | some (.ok y, S2) => match keyS x with
      | some k => some (.ok (.cl S2.length), S2 ++ [.dct [k] [y]])
      | none => none
    | _ => none
  | _ => none
theorem fe_d1 {a b : Expr} {fa fb : Sl → MM SV} {pos : Pos} (ha : FE X (fun _ _ _ _ => False) a fa) (hb : FE X (fun _ _ _ _ => False) b fb) : FE X W (.Dict [some a] [b] pos) (sD1 fa fb) := by
  obtain ⟨ta, pa, sa⟩ := ha.ex
  obtain ⟨tb, pb, sb⟩ := hb.ex
  refine ⟨_, pe_disp (pps_cons pa pb pps_nil) rfl rfl (fun z => nomatch z) (by show 1 ≤ 15; decide), fun σ ss F as S H Q o S' hr s h cn => ?_⟩
  intro p hp
  have s1 := s.hide (o := .dK []) hp
  have gp := s.gnone hp
  unfold sD1 at h
  split at h
  · rename_i x S1 h1
    refine sa σ ss F _ S _ _ _ S1 (hr.hide) s1 h1 fun F1 as1 H1 e1 s2 v rv => ?_
    split at h
    · rename_i y S2 h3
      refine sb σ ss F1 as1 S1 _ _ _ S2 ((hr.hide).mono e1) s2 h3 fun F2 as2 H2 e2 s3 w rw' => ?_
      cases hk : keyS x with
      | none => simp only [hk] at h; cases h
      | some k =>
        simp only [hk] at h
        cases h
        have g2 : as2.g p = some (.dK []) := by rw [e2.gs, e1.gs]; exact hide_same
        obtain ⟨hH, hF, hl⟩ := s3.gh p _ g2
        have rx : VRel X.kw F2 as2 v x := rv.mono e2
        have ev := keyS_ok rx hk
        obtain ⟨t, et⟩ := (e1.trans e2).pre
        -- the store without the dict kept aside
        have s4 : SRel X.kw F2 (AS.hide ⟨as2.l, as.g⟩ p (.dK [])) S2 H2 := by
          refine s3.weak (g := (AS.hide ⟨as2.l, as.g⟩ p (.dK [])).g) fun a o' q => ?_
          rw [e2.gs, e1.gs]
          exact q
        refine ⟨hH, [(k, w)], by rw [ev]; rfl, by show 1 ≤ 15; decide, ?_⟩
        have hz : mergeK [] [(k, w)] = [k].zip [w] := rfl
        rw [hz]
        have s5 := s4.hidC (m := .dct [k] [y]) (u := .dK ([k].zip [w])) gp ⟨hF, [w], upd_same, rfl, .cons (rw'.mono (as' := ⟨as2.l ++ [p], as2.g⟩) ⟨Same.refl _, ⟨[p], rfl⟩, rfl⟩) .nil⟩
        refine cn F2 (AS.snoc ⟨as2.l, as.g⟩ p) _ ⟨(e1.trans e2).same, ⟨t ++ [p], ?_⟩, rfl⟩ s5 _ ⟨p, ?_, rfl⟩
        · show as2.l ++ [p] = as.l ++ (t ++ [p])
          rw [et]
          show as.l ++ t ++ [p] = _
          rw [List.append_assoc]
        · show (as2.l ++ [p])[S2.length]? = some p
          rw [← s3.len]; simp
    · cases h
  · cases h
/-! ### k in d -/
def dinC (y x : SV) : MM SV := fun S => match keyS y, dctL S x with
  | some k, some (_, ks, xs) => some (.ok (.sh (.bl (valX ks xs k).isSome)), S)
  | _, _ => none
def sDIn (fa fb : Sl → MM SV) : Sl → MM SV := fun ss => MM.bind (fa ss) fun y => MM.bind (fb ss) fun x => dinC y x
theorem din_ok {a b : Expr} {fa fb : Sl → MM SV} {ta tb : TE}
    (sa : ∀ (σ : L2.St) (ss : Sl) (F : Hp) (as : AS) (S : Store) (H : Hp) (Q : VK) (o : Ou SV) (S' : Store), SlRel X.kw F as σ ss → SRel X.kw F as S H → fa ss S = some (o, S') → Cont X.kw (WE W σ) F as S' o (fun x F' as' H' => ∀ v, VRel X.kw F' as' v x → Q v H') → ta σ H Q)
    (sb : ∀ (σ : L2.St) (ss : Sl) (F : Hp) (as : AS) (S : Store) (H : Hp) (Q : VK) (o : Ou SV) (S' : Store), SlRel X.kw F as σ ss → SRel X.kw F as S H → fb ss S = some (o, S') → Cont X.kw (WE W σ) F as S' o (fun x F' as' H' => ∀ v, VRel X.kw F' as' v x → Q v H') → tb σ H Q)
    (σ : L2.St) (ss : Sl) (F : Hp) (as : AS) (S : Store) (H : Hp) (Q : VK) (o : Ou SV) (S' : Store) (hr : SlRel X.kw F as σ ss) (s : SRel X.kw F as S H) (h : sDIn fa fb ss S = some (o, S'))
    (cn : Cont X.kw (WE W σ) F as S' o (fun x F' as' H' => ∀ v, VRel X.kw F' as' v x → Q v H')) : tDIn ta tb σ H Q := by
  refine step (T := ta σ H) (Rl := VR X) (fun Q o S' h c => sa σ ss F as S H Q o S' hr s h c) h cn ?_
  intro y S1 F1 as1 H1 v h1 e1 s1 rv c1
  refine step (T := tb σ H1) (Rl := VR X) (fun Q o S' h c => sb σ ss F1 as1 S1 H1 Q o S' (hr.mono e1) s1 h c) h1 c1 ?_
  intro x S2 F2 as2 H2 w h2 e2 s2 rw' c2
  unfold dinC at h2
  split at h2
  · rename_i k j ks xs hk hd
    cases h2
    obtain ⟨a, vs, rfl, ha, fa', hH, hl, rr⟩ := dctL_ok s2 rw' hd
    have ev := keyS_ok (rv.mono e2) hk
    obtain ⟨n1, n2⟩ := valX_ok (j := k) hl rr
    refine ⟨a, valV (ks.zip vs) k, rfl, by rw [ev]; exact DGet.k hH, ?_⟩
    have e : (valV (ks.zip vs) k).isSome = (valX ks xs k).isSome := by
      cases q : valX ks xs k with
      | none => rw [n1 q]; rfl
      | some z => obtain ⟨v0, q0, _⟩ := n2 z q; rw [q0]; rfl
    rw [e]
    exact c2 F2 as2 H2 (Ext.refl _ _) s2 _ (.bl _)
  · cases h2
theorem fe_dIn {a b : Expr} {fa fb : Sl → MM SV} {pos : Pos} (hu : X.A.units + 1 < cLine) (ha : FE X W a fa) (hb : FE X W b fb) (hm : behindInMarks .In b = false := by rfl) : FE X W (.Compare a [.In] [b] pos) (sDIn fa fb) := by
  obtain ⟨ta, pa, sa⟩ := ha.ex
  obtain ⟨tb, pb, sb⟩ := hb.ex
  exact ⟨_, pe_cmp (pc_din hu pa pb) hm, din_ok (a := a) (b := b) sa sb⟩
theorem ft_dIn {a b : Expr} {fa fb : Sl → MM SV} {pos : Pos} (hu : X.A.units + 1 < cLine) (ha : FE X W a fa) (hb : FE X W b fb) (hm : behindInMarks .In b = false := by rfl) : FT X W (.Compare a [.In] [b] pos) (sB (sDIn fa fb)) := by
  obtain ⟨ta, pa, sa⟩ := ha.ex
  obtain ⟨tb, pb, sb⟩ := hb.ex
  refine ⟨_, pt_cmp (pc_din hu pa pb) hm, fun σ ss F as S H Q o S' hr s h c => ?_⟩
  refine step (T := tDIn ta tb σ H) (Rl := fun F' as' v x => VRel X.kw F' as' v x) (fun Q o S' h c => din_ok (a := a) (b := b) sa sb σ ss F as S H Q o S' hr s h c) h c ?_
  intro x S1 F1 as1 H1 v h1 e1 s1 rv c1
  exact asB_ok s1 rv h1 c1
/-! ### d[k] -/
def dixK (x y : SV) : MM SV := fun S => match keyS y, dctL S x with
  | some k, some (_, ks, xs) => (valX ks xs k).map fun u => (.ok u, S)
  | _, _ => none
def sDIxK (f k : Sl → MM SV) : Sl → MM SV := fun ss => MM.bind (f ss) fun x => MM.bind (k ss) fun i => dixK x i
theorem fe_dixK {a b : Expr} {fa fb : Sl → MM SV} {pos : Pos} (hu : X.A.units + 1 < cLine) (ha : FE X W a fa) (hb : FE X W b fb) (hs : NoSl b := by exact fun _ _ => rfl) : FE X W (.Subscript a b pos) (sDIxK fa fb) := by
  obtain ⟨ta, pa, sa⟩ := ha.ex
  obtain ⟨tb, pb, sb⟩ := hb.ex
  refine ⟨_, pe_dget hu pa pb hs, fun σ ss F as S H Q o S' hr s h c => ?_⟩
  refine step (T := ta σ H) (Rl := fun F' as' v x => VRel X.kw F' as' v x) (fun Q o S' h c => sa σ ss F as S H Q o S' hr s h c) h c ?_
  intro x S1 F1 as1 H1 v h1 e1 s1 rv c1
  refine step (T := tb σ H1) (Rl := fun F' as' v x => VRel X.kw F' as' v x) (fun Q o S' h c => sb σ ss F1 as1 S1 H1 Q o S' (hr.mono e1) s1 h c) h1 c1 ?_
  intro y S2 F2 as2 H2 w h2 e2 s2 rw' c2
  unfold dixK at h2
  split at h2
  · rename_i k j ks xs hk hc
    obtain ⟨a', vs, rfl, ha', fa, hH, hl, rr⟩ := dctL_ok s2 (rv.mono e2) hc
    have ev := keyS_ok rw' hk
    cases q : valX ks xs k with
    | none => rw [q] at h2; cases h2
    | some u =>
      rw [q] at h2; cases h2
      obtain ⟨v0, e0, r0⟩ := (valX_ok (j := k) hl rr).2 u q
      exact ⟨a', v0, rfl, by rw [ev]; exact .inl ⟨_, k, Rd.of hH, rfl, e0.symm⟩, c2 F2 as2 H2 (Ext.refl _ _) s2 _ r0⟩
  · cases h2
/-! ### max(x, default=d) -/
def rMaxD (K : PySem.W.Frag) : List V → List V → Hp → VK → Prop := fun vs zs H Q => ∃ (a : Addr) (ns : List Int) (d : V), vs = [V.ref a] ∧ zs = [d] ∧ SqL K H a (ns.map V.int) ∧ (ns = [] → Q d H) ∧ (ns ≠ [] → ∀ m, m ∈ ns → (∀ y, y ∈ ns → y ≤ m) → Q (.int m) H)
theorem maxOf_int (y : Int) (ys : List Int) : PySem.W.maxOf y ys ∈ y :: ys ∧ ∀ z ∈ y :: ys, z ≤ PySem.W.maxOf y ys := by
  unfold PySem.W.maxOf
  induction ys generalizing y with
  | nil => simp
  | cons a r ih =>
    rw [List.foldl_cons]
    have e : (if PySem.W.DatumOrd.lt y a = true then a else y) = max y a := by
      show (if decide (y < a) = true then a else y) = max y a
      by_cases c : y < a
      · rw [if_pos (by simpa using c)]; omega
      · rw [if_neg (by simpa using c)]; omega
    rw [e]
    obtain ⟨i1, i2⟩ := ih (max y a)
    refine ⟨?_, fun z hz => ?_⟩
    · rcases List.mem_cons.mp i1 with q | q
      · rw [q]
        rcases Int.le_total y a with c | c
        · rw [Int.max_eq_right c]; simp
        · rw [Int.max_eq_left c]; simp
      · simp [q]
    · have h1 := i2 (max y a) (by simp)
      rcases List.mem_cons.mp hz with q | q
      · subst q; omega
      · rcases List.mem_cons.mp q with q | q
        · subst q; omega
        · exact i2 z (by simp [q])
theorem cr_maxD (hc : X.calm = true) (hu : X.A.units + 1 < cLine) : CallRK X (.builtin "max") [Str.ofString "default"] (rMaxD X.K) := by
  intro pins s σ H vs zs us ws Q I r rz h
  obtain ⟨a, ns, d, rfl, rfl, hs, q0, q1⟩ := h
  obtain ⟨its, rv, hl, _⟩ := I.list hs
  rw [Vals.ref1 r]
  cases rz with
  | @cons _ w _ _ rd rn =>
    cases rn
    show wpAny _ _ (call (.builtin "max") [.ref a] [(Str.ofString "default", w)]) _ _ _
    refine PySem.W.max_list_datum_default (α := Int) (xs := ns) (I.ok.hd hc) hl.isList (PySem.W.HoldAll.of_ints rv.ints) (by show X.A.units + 1 + 0 < cLine; omega) (fun e h' tk hk => ⟨d, H, I.kept hk, rd, q0 e⟩) fun y ys i v h' tk e hi hv hk => ?_
    subst e
    obtain ⟨t, rfl⟩ := PySem.W.int_of_holds hv
    obtain ⟨m1, m2⟩ := maxOf_int y ys
    exact ⟨.int _, H, I.kept hk, ⟨_, rfl⟩, q1 (by simp) _ m1 m2⟩
def maxDS (S : Store) (xs zs : List SV) : Option D := match xs, zs with
  | [x], [.sh (.int d)] => (lookD S x).bind fun e => (lstD e).bind fun ds => (intsD ds).map fun ns => .int (if ns = [] then d else maxI ns)
  | _, _ => none
def sMaxD (fa fk : Sl → MM (List SV)) : Sl → MM SV := fun ss => MM.bind (fa ss) fun xs => MM.bind (fk ss) fun zs S => (maxDS S xs zs).map fun d => (.ok (.sh d), S)
theorem fe_maxD {p pos : Pos} {e : Expr} {kws : List Keyword} {fa fk : Sl → MM (List SV)} (hu : X.A.units + 1 < cLine) (hg : Gl X "max") (hm : X.mg "max" = none) (ha : FA X W [e] fa) (hk : FK X W kws fk) (hc : X.calm = true := by rfl)
    (he : backTo pos (starEach [e] X.env) = (false, eval e X.env) :: backTo pos (starEach [] X.env) := by rfl) (hpl : (backTo pos (starEach [e] X.env)).any (·.1) = false := by rfl)
    (hall : (backToKw pos (keywordEach kws X.env)).all (·.1.isSome) = true := by rfl) (hnone : (backToKw pos (keywordEach kws X.env)).any (·.1.isNone) = false := by rfl) (hks : (backToKw pos (keywordEach kws X.env)).filterMap (·.1) = [Str.ofString "default"] := by rfl) :
    FE X W (.Call (.Name "max" p) [e] kws pos) (sMaxD fa fk) := by
  obtain ⟨ta, pa, sa⟩ := ha.ex
  obtain ⟨tk, pk, sk⟩ := hk.ex
  refine ⟨_, pe_callBK (cr_maxD hc hu) hg hm PyProof.Rows.boot_max pa pk (by decide) (by decide) he hpl hall hnone hks, fun σ ss F as S H Q o S' hr s h cn => ?_⟩
  refine step (T := ta σ H) (Rl := fun F' as' v x => VsRel X.kw F' as' v x) (fun Q o S' h c => sa σ ss F as S H Q o S' hr s h c) h cn ?_
  intro xs S1 F1 as1 H1 vs h1 e1 s1 rvs c1
  refine step (T := tk σ H1) (Rl := fun F' as' v x => VsRel X.kw F' as' v x) (fun Q o S' h c => sk σ ss F1 as1 S1 H1 Q o S' (hr.mono e1) s1 h c) h1 c1 ?_
  intro zs S2 F2 as2 H2 ws h2 e2 s2 rws c2
  have rvs2 : VsRel X.kw F2 as2 vs xs := rvs.mono e2
  unfold maxDS at h2
  split at h2
  · rename_i x d
    cases rvs2 with
    | @cons v _ _ _ rx rn =>
      cases rn
      cases rws with
      | @cons w _ _ _ ry rm =>
        cases rm
        cases (show w = V.int d from Rep.int_of ry)
        cases h3 : lookD S2 x with
        | none => rw [h3] at h2; cases h2
        | some e =>
          rw [h3] at h2
          cases h4 : lstD e with
          | none => simp [h4] at h2
          | some ds =>
            simp only [h4, Option.bind_some] at h2
            cases h5 : intsD ds with
            | none => rw [h5] at h2; simp at h2
            | some ns =>
              rw [h5] at h2
              simp only [Option.map_some] at h2
              cases h2
              obtain ⟨a, us, rfl, hq, rr⟩ := (look_ok s2 rx h3).lstD s2.ff h4
              rw [intsD_eq h5] at rr
              rw [rr.of_ints] at hq
              refine ⟨a, ns, .int d, rfl, rfl, hq, fun z => ?_, fun z m hm hy => ?_⟩
              · exact c2 F2 as2 H2 (Ext.refl _ _) s2 _ (by rw [if_pos z]; exact .int _)
              · have : m = maxI ns := Int.le_antisymm (maxI_le hm) (hy _ (maxI_mem z))
                rw [this]
                exact c2 F2 as2 H2 (Ext.refl _ _) s2 _ (by rw [if_neg z]; exact .int _)
  · cases h2
/-! ### min(a, b) -/
def dMin2 : D → D → Option An
  | .int i, .int j => some (.val (.int (if j < i then j else i)))
  | _, _ => none
theorem snd_min2 {K : KW} : SndN K (fun xs H Q => ∃ i j, xs = [.int i, .int j] ∧ Q (.int (if j < i then j else i)) H) (on2 dMin2) := fun F H xs ds an Q s rx hg q => by
  unfold on2 at hg
  split at hg
  · obtain ⟨v, w, rfl, r1, r2⟩ := pair2 rx
    unfold dMin2 at hg
    split at hg
    · cases hg
      exact ⟨_, _, by rw [r1.int, r2.int], q _ (.int _)⟩
    · cases hg
  · cases hg
theorem fe_min2 {p pos : Pos} {e e2 : Expr} {fa : Sl → MM (List SV)} (hg : Gl X "min") (hm : X.mg "min" = none) (ha : FA X W [e, e2] fa) (hc : X.calm = true := by rfl) (he : starEach [e, e2] X.env = (false, eval e X.env) :: starEach [e2] X.env := by rfl) (hpl : (backTo pos (starEach [e2] X.env)).any (·.1) = false := by rfl) : FE X W (.Call (.Name "min" p) [e, e2] [] pos) (bN false (on2 dMin2) fa) := fe_callB false (call_min2 hc) snd_min2 hg hm PyProof.Rows.boot_min ha (by decide) (by decide) he hpl
/-! ### l.reverse() -/
def uRev (xs ys : List SV) (_ : Store) : Option (SV × List SV) := match ys with
  | [] => some (.sh .non, xs.reverse)
  | _ => none
theorem VsRel.reverse {K : KW} {F : Hp} {as : AS} {vs : List V} {xs : List SV} (r : VsRel K F as vs xs) : VsRel K F as vs.reverse xs.reverse := by
  induction r with
  | nil => exact .nil
  | cons a t ih => rw [List.reverse_cons, List.reverse_cons]; exact VsRel.append ih (.cons a .nil)
theorem snd_rev {K : KW} : SndU K rReverse uRev := fun F H as S a vs ws xs ys xs' z Q s hH rx ry h q => by
  unfold uRev at h
  split at h
  · cases h
    cases ry
    exact ⟨a, vs, rfl, rfl, hH, q _ _ .non rx.reverse⟩
  · cases h
theorem fe_reverse {o : Expr} {f : Sl → MM SV} {apos pos : Pos} (ho : FE X W o f) (hbase : attributeBase o "reverse" X.env (eval o X.env) = eval o X.env := by rfl) (hline : (apos.endLine == pos.line) = true := by rfl) : FE X W (.Call (.Attribute o "reverse" apos) [] [] pos) (sMut uRev f aNil) := fe_bmU0 F.slot_list_reverse F.type_list_reverse mt_reverse snd_rev ho hbase hline
end
end FW

set_option Elab.async false
set_option linter.all false
set_option maxRecDepth 100000
set_option maxHeartbeats 4000000
/-! k04_names_exchanged_for_terms: the program's defs, each read as a function. Printed by gen.py. -/
namespace Pg
open PySem PySem.Spec PyProof.Rows L2 FW FwR
theorem _root_.L2.Room.units65 {k : Nat} {A : Around} (h : Room k A) : A.units + 65 < cLine := by have := h.un; omega
theorem _root_.L2.Room.units2 {k : Nat} {A : Around} (h : Room k A) : A.units + 1 < cLine := by have := h.un; omega
def top (i : Nat) : Stmt := PySem.Challenge.pw_fanweave_k04_names_exchanged_for_terms.main.body.getD i (.Pass ⟨0, 0, 0, 0⟩)
abbrev st__law_mixed : Stmt := top 33
abbrev st__law_purse : Stmt := top 34
abbrev st__law_take : Stmt := top 35
abbrev st__law_leaf : Stmt := top 41
abbrev st__law_drawn : Stmt := top 42
abbrev st_is_letter : Stmt := top 7
abbrev st_is_word : Stmt := top 8
abbrev st_check_word : Stmt := top 31
abbrev st_Term___init__ : Stmt := inClass (top 25) 0
abbrev st_is_level : Stmt := top 17
abbrev st_raised : Stmt := top 19
abbrev st_fun : Stmt := top 27
abbrev st_name : Stmt := top 26
abbrev st_put : Stmt := top 28
abbrev st__law_made : Stmt := top 47
abbrev st__law_written : Stmt := top 39
abbrev st__law_words : Stmt := top 38
abbrev st__law_free : Stmt := top 37
abbrev st__law_text : Stmt := top 40
abbrev st_depths : Stmt := top 18
abbrev st_all_put_in : Stmt := top 30
abbrev st_put_in : Stmt := top 29
abbrev st__law_at : Stmt := top 36
abbrev st__law_used : Stmt := top 44
abbrev st__law_binder : Stmt := top 45
abbrev st__law_named : Stmt := top 46
abbrev st__law_put : Stmt := top 49
abbrev st_Term___eq__ : Stmt := inClass (top 25) 1
abbrev st_nth_word : Stmt := top 9
abbrev st_spare_words : Stmt := top 10
abbrev st_free_words : Stmt := top 20
abbrev st_told_words : Stmt := top 21
abbrev st_needs_brackets : Stmt := top 22
abbrev st_text_pieces : Stmt := top 23
abbrev st_Term___str__ : Stmt := inClass (top 25) 3
abbrev st_law : Stmt := top 50
theorem sc__law_mixed : FnScope ["cell", "k", "number"] ["cell", "k"] (defScope st__law_mixed) := ⟨rfl, rfl, rfl, by decide +kernel, rfl, by decide +kernel, by decide +kernel⟩
theorem sc__law_purse : FnScope ["cell", "k"] ["cell", "k"] (defScope st__law_purse) := ⟨rfl, rfl, rfl, by decide +kernel, rfl, by decide +kernel, by decide +kernel⟩
theorem sc__law_take : FnScope ["purse", "many", "got"] ["purse", "many"] (defScope st__law_take) := ⟨rfl, rfl, rfl, by decide +kernel, rfl, by decide +kernel, by decide +kernel⟩
theorem sc__law_leaf : FnScope ["purse", "depth", "free"] ["purse", "depth", "free"] (defScope st__law_leaf) := ⟨rfl, rfl, rfl, by decide +kernel, rfl, by decide +kernel, by decide +kernel⟩
theorem sc__law_drawn : FnScope ["purse", "deep", "depth", "free", "way", "this"] ["purse", "deep", "depth", "free"] (defScope st__law_drawn) := ⟨rfl, rfl, rfl, by decide +kernel, rfl, by decide +kernel, by decide +kernel⟩
theorem sc_is_letter : FnScope ["sign"] ["sign"] (defScope st_is_letter) := ⟨rfl, rfl, rfl, by decide +kernel, rfl, by decide +kernel, by decide +kernel⟩
theorem sc_is_word : FnScope ["thing", "sign"] ["thing"] (defScope st_is_word) := ⟨rfl, rfl, rfl, by decide +kernel, rfl, by decide +kernel, by decide +kernel⟩
theorem sc_check_word : FnScope ["word"] ["word"] (defScope st_check_word) := ⟨rfl, rfl, rfl, by decide +kernel, rfl, by decide +kernel, by decide +kernel⟩
theorem sc_Term___init__ : FnScope ["self", "parts"] ["self", "parts"] (defScope st_Term___init__) := ⟨rfl, rfl, rfl, by decide +kernel, rfl, by decide +kernel, by decide +kernel⟩
theorem sc_is_level : FnScope ["part"] ["part"] (defScope st_is_level) := ⟨rfl, rfl, rfl, by decide +kernel, rfl, by decide +kernel, by decide +kernel⟩
theorem sc_raised : FnScope ["parts", "by", "part"] ["parts", "by"] (defScope st_raised) := ⟨rfl, rfl, rfl, by decide +kernel, rfl, by decide +kernel, by decide +kernel⟩
theorem sc_fun : FnScope ["word", "body", "bound", "part"] ["word", "body"] (defScope st_fun) := ⟨rfl, rfl, rfl, by decide +kernel, rfl, by decide +kernel, by decide +kernel⟩
theorem sc_name : FnScope ["word"] ["word"] (defScope st_name) := ⟨rfl, rfl, rfl, by decide +kernel, rfl, by decide +kernel, by decide +kernel⟩
theorem sc_put : FnScope ["function", "argument"] ["function", "argument"] (defScope st_put) := ⟨rfl, rfl, rfl, by decide +kernel, rfl, by decide +kernel, by decide +kernel⟩
theorem sc__law_made : FnScope ["named"] ["named"] (defScope st__law_made) := ⟨rfl, rfl, rfl, by decide +kernel, rfl, by decide +kernel, by decide +kernel⟩
theorem sc__law_written : FnScope ["tree", "words", "depth", "this", "that"] ["tree", "words", "depth"] (defScope st__law_written) := ⟨rfl, rfl, rfl, by decide +kernel, rfl, by decide +kernel, by decide +kernel⟩
theorem sc__law_words : FnScope ["free", "many", "letters", "some", "this", "that", "said"] ["free", "many"] (defScope st__law_words) := ⟨rfl, rfl, rfl, by decide +kernel, rfl, by decide +kernel, by decide +kernel⟩
theorem sc__law_free : FnScope ["tree"] ["tree"] (defScope st__law_free) := ⟨rfl, rfl, rfl, by decide +kernel, rfl, by decide +kernel, by decide +kernel⟩
theorem sc__law_text : FnScope ["tree"] ["tree"] (defScope st__law_text) := ⟨rfl, rfl, rfl, by decide +kernel, rfl, by decide +kernel, by decide +kernel⟩
theorem sc_depths : FnScope ["parts", "waiting", "told", "part", "depth"] ["parts"] (defScope st_depths) := ⟨rfl, rfl, rfl, by decide +kernel, rfl, by decide +kernel, by decide +kernel⟩
theorem sc_all_put_in : FnScope ["term", "others", "parts", "part", "depth"] ["term", "others"] (defScope st_all_put_in) := ⟨rfl, rfl, rfl, by decide +kernel, rfl, by decide +kernel, by decide +kernel⟩
theorem sc_put_in : FnScope ["term", "word", "other"] ["term", "word", "other"] (defScope st_put_in) := ⟨rfl, rfl, rfl, by decide +kernel, rfl, by decide +kernel, by decide +kernel⟩
theorem sc__law_at : FnScope ["script", "k"] ["script", "k"] (defScope st__law_at) := ⟨rfl, rfl, rfl, by decide +kernel, rfl, by decide +kernel, by decide +kernel⟩
theorem sc__law_used : FnScope ["tree", "depth"] ["tree", "depth"] (defScope st__law_used) := ⟨rfl, rfl, rfl, by decide +kernel, rfl, by decide +kernel, by decide +kernel⟩
theorem sc__law_binder : FnScope ["purse", "inside", "words", "barred", "k", "said"] ["purse", "inside", "words"] (defScope st__law_binder) := ⟨rfl, rfl, rfl, by decide +kernel, rfl, by decide +kernel, by decide +kernel⟩
theorem sc__law_named : FnScope ["purse", "tree", "words", "this", "said"] ["purse", "tree", "words"] (defScope st__law_named) := ⟨rfl, rfl, rfl, by decide +kernel, rfl, by decide +kernel, by decide +kernel⟩
theorem sc__law_put : FnScope ["tree", "said", "that"] ["tree", "said", "that"] (defScope st__law_put) := ⟨rfl, rfl, rfl, by decide +kernel, rfl, by decide +kernel, by decide +kernel⟩
theorem sc_Term___eq__ : FnScope ["self", "other"] ["self", "other"] (defScope st_Term___eq__) := ⟨rfl, rfl, rfl, by decide +kernel, rfl, by decide +kernel, by decide +kernel⟩
theorem sc_nth_word : FnScope ["number", "signs", "left", "place"] ["number"] (defScope st_nth_word) := ⟨rfl, rfl, rfl, by decide +kernel, rfl, by decide +kernel, by decide +kernel⟩
theorem sc_spare_words : FnScope ["taken", "many", "held", "spare", "number", "word"] ["taken", "many"] (defScope st_spare_words) := ⟨rfl, rfl, rfl, by decide +kernel, rfl, by decide +kernel, by decide +kernel⟩
theorem sc_free_words : FnScope ["parts", "part"] ["parts"] (defScope st_free_words) := ⟨rfl, rfl, rfl, by decide +kernel, rfl, by decide +kernel, by decide +kernel⟩
theorem sc_told_words : FnScope ["parts"] ["parts"] (defScope st_told_words) := ⟨rfl, rfl, rfl, by decide +kernel, rfl, by decide +kernel, by decide +kernel⟩
theorem sc_needs_brackets : FnScope ["part", "place"] ["part", "place"] (defScope st_needs_brackets) := ⟨rfl, rfl, rfl, by decide +kernel, rfl, by decide +kernel, by decide +kernel⟩
theorem sc_text_pieces : FnScope ["parts", "words", "pieces", "waiting", "part", "depth", "place", "behind"] ["parts"] (defScope st_text_pieces) := ⟨rfl, rfl, rfl, by decide +kernel, rfl, by decide +kernel, by decide +kernel⟩
theorem sc_Term___str__ : FnScope ["self"] ["self"] (defScope st_Term___str__) := ⟨rfl, rfl, rfl, by decide +kernel, rfl, by decide +kernel, by decide +kernel⟩
theorem sc_law : FnScope ["script", "cell", "purse", "tree", "that", "piece", "handed", "said", "due", "once", "wide", "caught"] ["script"] (defScope st_law) := ⟨rfl, rfl, rfl, by decide +kernel, rfl, by decide +kernel, by decide +kernel⟩
/-- the exceptions that are raised here, the classes that are asked for -/
abbrev Known : List String := ["NoWord"]
abbrev Targets : List String := ["NoWord"]
noncomputable def B__law_mixed : SM := (gSeq (gAs (b2 false dAdd (b2 false dAdd (b2 false (dI cMul fun i j => i * j) (b2 false dAdd (b2 false (dI cMod fun i j => i % j) (sVar 0) (b2 false dAdd (b2 false (dI cPow fun i j => i ^ j.toNat) (sC (.int 10)) (sC (.int 18))) (sC (.int 9)))) (b2 false (dI cMul fun i j => i * j) (sC (.int 7)) (sVar 1))) (sC (.int 739108512309184756019283746561))) (b2 false (dI cMul fun i j => i * j) (sC (.int 7919)) (sVar 1))) (sC (.int 1))) (tgN 2))
    (gSeq (gAs (b2 false (dI cMod fun i j => i % j) (b2 false (dI cMul fun i j => i * j) (sVar 2) (sVar 2)) (b2 false dAdd (b2 false (dI cPow fun i j => i ^ j.toNat) (sC (.int 10)) (sC (.int 60))) (sC (.int 7)))) (tgN 2))
    (gRet (b2 false (dI cMod fun i j => i % j) (b2 false (dI cMul fun i j => i * j) (b2 false dAdd (sVar 2) (sC (.int 40503))) (b2 false dAdd (sVar 2) (sC (.int 57)))) (b2 false dAdd (b2 false (dI cPow fun i j => i ^ j.toNat) (sC (.int 10)) (sC (.int 60))) (sC (.int 7)))))))
noncomputable def S__law_mixed : Fn := runD true 3 B__law_mixed
noncomputable def B__law_purse : SM := (gSeq (gIf (sB (b2 false dGe (sVar 0) (b2 false (dI cPow fun i j => i ^ j.toNat) (sC (.int 10)) (sC (.int 18))))) (gRet (sLst true (aCons (b2 false (dI cMod fun i j => i % j) (b2 false (dI (fun _ _ => true) fun i j => i - j) (sVar 0) (b2 false (dI cPow fun i j => i ^ j.toNat) (sC (.int 10)) (sC (.int 18)))) (b2 false (dI cPow fun i j => i ^ j.toNat) (b2 false (dI cPow fun i j => i ^ j.toNat) (sC (.int 10)) (sC (.int 60))) (sC (.int 10)))) (aCons (sC (.int 0)) (aCons (sVar 1) aNil))))) gNx)
    (gRet (sLst true (aCons (sCall 2 S__law_mixed (aCons (sVar 0) (aCons (sVar 1) aNil))) (aCons (sC (.int 0)) (aCons (b2 false dAdd (b2 false (dI cMod fun i j => i % j) (sVar 0) (b2 false dAdd (b2 false (dI cPow fun i j => i ^ j.toNat) (sC (.int 10)) (sC (.int 18))) (sC (.int 9)))) (sVar 1)) aNil))))))
noncomputable def S__law_purse : Fn := runD false 2 B__law_purse
noncomputable def B__law_take : SM := (gSeq (gIf (sB (b2 false dLt (b2 false dIx (sVar 0) (sC (.int 0))) (sVar 1))) (gSeq (gAs (b2 false dAdd (b2 false dIx (sVar 0) (sC (.int 1))) (sC (.int 1))) (tgI (sVar 0) (sC (.int 1))))
    (gAs (b2 false dAdd (b2 false dIx (sVar 0) (sC (.int 0))) (b2 false (dI cMul fun i j => i * j) (sVar 1) (sCall 2 S__law_mixed (aCons (b2 false dIx (sVar 0) (sC (.int 2))) (aCons (b2 false dAdd (b2 false (dI cMul fun i j => i * j) (sC (.int 11)) (b2 false dIx (sVar 0) (sC (.int 1)))) (sC (.int 5))) aNil))))) (tgI (sVar 0) (sC (.int 0))))) gNx)
    (gSeq (gAs (b2 false (dI cMod fun i j => i % j) (b2 false dIx (sVar 0) (sC (.int 0))) (sVar 1)) (tgN 2))
    (gSeq (gAs (b2 false (dI cDiv fun i j => i / j) (b2 false dIx (sVar 0) (sC (.int 0))) (sVar 1)) (tgI (sVar 0) (sC (.int 0))))
    (gRet (sVar 2)))))
noncomputable def S__law_take : Fn := runD true 3 B__law_take
noncomputable def B__law_leaf : SM := (gSeq (gIf (bAnd (sB (b2 false (dEq true) (sVar 2) (sLst false aNil))) (bOr (sB (b2 false (dEq false) (sVar 1) (sC (.int 0)))) (sB (b2 false (dEq false) (sCall 2 S__law_take (aCons (sVar 0) (aCons (sC (.int 6)) aNil))) (sC (.int 0)))))) (gRet (sLst false (aCons (sC (.str "n")) (aCons (b2 false dIx (sVar 2) (sCall 2 S__law_take (aCons (sVar 0) (aCons (bN false (on1 dLen) (aCons (sVar 2) aNil)) aNil)))) aNil)))) gNx)
    (gSeq (gIf (sB (b2 false (dEq false) (sVar 1) (sC (.int 0)))) (gRet (sLst false (aCons (sC (.str "l")) (aCons (sLst false (aCons (sC (.str "v")) (aCons (sC (.int 0)) aNil))) aNil)))) gNx)
    (gRet (sLst false (aCons (sC (.str "v")) (aCons (sCall 2 S__law_take (aCons (sVar 0) (aCons (sVar 1) aNil))) aNil))))))
noncomputable def S__law_leaf : Fn := runD true 3 B__law_leaf
noncomputable def B__law_drawn (n : Fn) : SM := (gSeq (gAs (sCall 2 S__law_take (aCons (sVar 0) (aCons (sC (.int 8)) aNil))) (tgN 4))
    (gSeq (gIf (bOr (sB (b2 false (dEq false) (sVar 1) (sC (.int 0)))) (sB (b2 false (dEq false) (sVar 4) (sC (.int 0))))) (gRet (sCall 3 S__law_leaf (aCons (sVar 0) (aCons (sVar 2) (aCons (sVar 3) aNil))))) gNx)
    (gSeq (gIf (sB (b2 false dLt (sVar 4) (sC (.int 4)))) (gRet (sLst false (aCons (sC (.str "l")) (aCons (sCall 4 n (aCons (sVar 0) (aCons (b2 false (dI (fun _ _ => true) fun i j => i - j) (sVar 1) (sC (.int 1))) (aCons (b2 false dAdd (sVar 2) (sC (.int 1))) (aCons (sVar 3) aNil))))) aNil)))) gNx)
    (gSeq (gAs (sCall 4 n (aCons (sVar 0) (aCons (b2 false (dI (fun _ _ => true) fun i j => i - j) (sVar 1) (sC (.int 1))) (aCons (sVar 2) (aCons (sVar 3) aNil))))) (tgN 5))
    (gRet (sLst false (aCons (sC (.str "p")) (aCons (sVar 5) (aCons (sCall 4 n (aCons (sVar 0) (aCons (b2 false (dI (fun _ _ => true) fun i j => i - j) (sVar 1) (sC (.int 1))) (aCons (sVar 2) (aCons (sVar 3) aNil))))) aNil)))))))))
noncomputable def S__law_drawn : Nat → Fn
  | 0 => fun _ _ => none
  | n + 1 => runD true 6 (B__law_drawn (S__law_drawn n))
noncomputable def B_is_letter : SM := (gRet (sChain dLe dLe (sC (.str "a")) (sVar 0) (sC (.str "z"))))
noncomputable def S_is_letter : Fn := runD true 1 B_is_letter
noncomputable def B_is_word : SM := (gSeq (gIf (bOr (bNot (sB (bN false (on2 dIsi) (aCons (sVar 0) (aCons (sC (.ty "str")) aNil))))) (bNot (sB (sChain dLe dLe (sC (.int 1)) (bN false (on1 dLen) (aCons (sVar 0) aNil)) (sC (.int (8))))))) (gRet (sC (.bl false))) gNx)
    (gRet (bN false (on1 dAll) (aCons (sComp false [1] (itS (sVar 0)) (tgN 1) tYs (sCall 1 S_is_letter (aCons (sVar 1) aNil))) aNil))))
noncomputable def S_is_word : Fn := runD true 2 B_is_word
noncomputable def B_check_word : SM := (gIf (bNot (sB (sCall 1 S_is_word (aCons (sVar 0) aNil)))) (gRaise "NoWord") gNx)
noncomputable def S_check_word : Fn := runD true 1 B_check_word
noncomputable def B_Term___init__ : SM := (gFld "Term" "parts" (bN false (on1 dTupOf) (aCons (sVar 1) aNil)) (sVar 0))
noncomputable def S_Term___init__ : Fn := runD true 2 B_Term___init__
noncomputable def B_is_level : SM := (gRet (vAnd (bN false (on2 dIsi) (aCons (sVar 0) (aCons (sC (.ty "int")) aNil))) (b2 false dGe (sVar 0) (sC (.int 0)))))
noncomputable def S_is_level : Fn := runD true 1 B_is_level
noncomputable def B_raised : SM := (gRet (sComp false [2] (itT (sVar 0)) (tgN 2) tYs (vIf (sB (sCall 1 S_is_level (aCons (sVar 2) aNil))) (b2 false dAdd (sVar 2) (sVar 1)) (sVar 2))))
noncomputable def S_raised : Fn := runD true 3 B_raised
noncomputable def B_fun : SM := (gSeq (gEx (sCall 1 S_check_word (aCons (sVar 0) aNil)))
    (gSeq (gAs (sComp false [3] (itL (sCall 2 S_raised (aCons (sFld "Term" "parts" (sVar 1)) (aCons (sC (.int 1)) aNil)))) (tgN 3) tYs (vIf (sB (b2 false (dEq false) (sVar 3) (sVar 0))) (sC (.int 0)) (sVar 3))) (tgN 2))
    (gRet (sMake false "Term" 2 S_Term___init__ (aCons (sLst false (aCons (sC (.int (-1))) (aStar (sVar 2) aNil))) aNil)))))
noncomputable def S_fun : Fn := runD true 4 B_fun
noncomputable def B_name : SM := (gSeq (gEx (sCall 1 S_check_word (aCons (sVar 0) aNil)))
    (gRet (sMake false "Term" 2 S_Term___init__ (aCons (sLst false (aCons (sVar 0) aNil)) aNil))))
noncomputable def S_name : Fn := runD true 1 B_name
noncomputable def B_put : SM := (gRet (sMake false "Term" 2 S_Term___init__ (aCons (sLst false (aCons (sC (.int (-2))) (aStar (sFld "Term" "parts" (sVar 0)) (aStar (sFld "Term" "parts" (sVar 1)) aNil)))) aNil)))
noncomputable def S_put : Fn := runD true 2 B_put
noncomputable def B__law_made (n : Fn) : SM := (gSeq (gIf (sB (b2 false (dEq false) (b2 false dIx (sVar 0) (sC (.int 0))) (sC (.str "n")))) (gRet (sCall 1 S_name (aCons (b2 false dIx (sVar 0) (sC (.int 1))) aNil))) gNx)
    (gSeq (gIf (sB (b2 false (dEq false) (b2 false dIx (sVar 0) (sC (.int 0))) (sC (.str "p")))) (gRet (sCall 2 S_put (aCons (sCall 1 n (aCons (b2 false dIx (sVar 0) (sC (.int 1))) aNil)) (aCons (sCall 1 n (aCons (b2 false dIx (sVar 0) (sC (.int 2))) aNil)) aNil)))) gNx)
    (gRet (sCall 2 S_fun (aCons (b2 false dIx (sVar 0) (sC (.int 1))) (aCons (sCall 1 n (aCons (b2 false dIx (sVar 0) (sC (.int 2))) aNil)) aNil))))))
noncomputable def S__law_made : Nat → Fn
  | 0 => fun _ _ => none
  | n + 1 => runD true 1 (B__law_made (S__law_made n))
noncomputable def B__law_written (n : Fn) : SM := (gSeq (gIf (sB (b2 false (dEq false) (b2 false dIx (sVar 0) (sC (.int 0))) (sC (.str "n")))) (gRet (b2 false dIx (sVar 0) (sC (.int 1)))) gNx)
    (gSeq (gIf (sB (b2 false (dEq false) (b2 false dIx (sVar 0) (sC (.int 0))) (sC (.str "v")))) (gRet (b2 false dIx (sVar 1) (b2 false (dI (fun _ _ => true) fun i j => i - j) (b2 false (dI (fun _ _ => true) fun i j => i - j) (sVar 2) (sC (.int 1))) (b2 false dIx (sVar 0) (sC (.int 1)))))) gNx)
    (gSeq (gIf (sB (b2 false (dEq false) (b2 false dIx (sVar 0) (sC (.int 0))) (sC (.str "l")))) (gRet (b2 false dAdd (b2 false dAdd (b2 false dAdd (sC (.str "[")) (b2 false dIx (sVar 1) (sVar 2))) (sC (.str "] "))) (sCall 3 n (aCons (b2 false dIx (sVar 0) (sC (.int 1))) (aCons (sVar 1) (aCons (b2 false dAdd (sVar 2) (sC (.int 1))) aNil)))))) gNx)
    (gSeq (gAs (sCall 3 n (aCons (b2 false dIx (sVar 0) (sC (.int 1))) (aCons (sVar 1) (aCons (sVar 2) aNil)))) (tgN 3))
    (gSeq (gAs (sCall 3 n (aCons (b2 false dIx (sVar 0) (sC (.int 2))) (aCons (sVar 1) (aCons (sVar 2) aNil)))) (tgN 4))
    (gSeq (gAs (b2 false dIx (sLst false (aCons (sVar 3) (aCons (b2 false dAdd (b2 false dAdd (sC (.str "(")) (sVar 3)) (sC (.str ")"))) aNil))) (bN false (on1 dInt) (aCons (b2 false (dEq false) (b2 false dIx (b2 false dIx (sVar 0) (sC (.int 1))) (sC (.int 0))) (sC (.str "l"))) aNil))) (tgN 3))
    (gRet (b2 false dAdd (b2 false dAdd (sVar 3) (sC (.str " "))) (b2 false dIx (sLst false (aCons (sVar 4) (aCons (b2 false dAdd (b2 false dAdd (sC (.str "(")) (sVar 4)) (sC (.str ")"))) aNil))) (bN false (on1 dInt) (aCons (b2 false (dInA false) (b2 false dIx (b2 false dIx (sVar 0) (sC (.int 2))) (sC (.int 0))) (sLst false (aCons (sC (.str "l")) (aCons (sC (.str "p")) aNil)))) aNil)))))))))))
noncomputable def S__law_written : Nat → Fn
  | 0 => fun _ _ => none
  | n + 1 => runD true 5 (B__law_written (S__law_written n))
noncomputable def B__law_words : SM := (gSeq (gAs (sC (.str "abcdefghijklmnopqrstuvwxyz")) (tgN 2))
    (gSeq (gAs (bN false (on1 dListS) (aCons (sVar 2) aNil)) (tgN 3))
    (gSeq (gFor (itS (sVar 2)) (tgN 4) (gAs (b2 false dAdd (sVar 3) (sComp false [5] (itS (sVar 2)) (tgN 5) tYs (b2 false dAdd (sVar 4) (sVar 5)))) (tgN 3)))
    (gRet (bSl false (sComp false [6] (itL (sVar 3)) (tgN 6) (sB (b2 false (dInA true) (sVar 6) (sVar 0))) (sVar 6)) oN (oS (sVar 1)))))))
noncomputable def S__law_words : Fn := runD true 7 B__law_words
noncomputable def B__law_free (n : Fn) : SM := (gSeq (gIf (sB (b2 false (dEq false) (b2 false dIx (sVar 0) (sC (.int 0))) (sC (.str "n")))) (gRet (sLst false (aCons (b2 false dIx (sVar 0) (sC (.int 1))) aNil))) gNx)
    (gSeq (gIf (sB (b2 false (dEq false) (b2 false dIx (sVar 0) (sC (.int 0))) (sC (.str "l")))) (gRet (sCall 1 n (aCons (b2 false dIx (sVar 0) (sC (.int 1))) aNil))) gNx)
    (gSeq (gIf (sB (b2 false (dEq false) (b2 false dIx (sVar 0) (sC (.int 0))) (sC (.str "p")))) (gRet (b2 false dAdd (sCall 1 n (aCons (b2 false dIx (sVar 0) (sC (.int 1))) aNil)) (sCall 1 n (aCons (b2 false dIx (sVar 0) (sC (.int 2))) aNil)))) gNx)
    (gRet (sLst false aNil)))))
noncomputable def S__law_free : Nat → Fn
  | 0 => fun _ _ => none
  | n + 1 => runD true 1 (B__law_free (S__law_free n))
noncomputable def B__law_text : SM := (gRet (sCall 3 (S__law_written 40) (aCons (sVar 0) (aCons (sCall 2 S__law_words (aCons (sCall 1 (S__law_free 40) (aCons (sVar 0) aNil)) (aCons (sC (.int 90)) aNil))) (aCons (sC (.int 0)) aNil)))))
noncomputable def S__law_text : Fn := runD true 1 B__law_text
noncomputable def B_depths : SM := (gSeq (gAs (sLst true (aCons (sC (.int 0)) aNil)) (tgN 1))
    (gSeq (gAs (sLst true aNil) (tgN 2))
    (gSeq (gFor (itT (sVar 0)) (tgN 3) (gSeq (gAs (sMut uPop (sVar 1) aNil) (tgN 4))
    (gSeq (gEx (sMut uAppend (sVar 2) (aCons (sVar 4) aNil)))
    (gIf (sB (b2 false (dEq false) (sVar 3) (sC (.int (-1))))) (gEx (sMut uAppend (sVar 1) (aCons (b2 false dAdd (sVar 4) (sC (.int 1))) aNil))) (gIf (sB (b2 false (dEq false) (sVar 3) (sC (.int (-2))))) (gEx (sMut uExtend (sVar 1) (aCons (sLst false (aCons (sVar 4) (aCons (sVar 4) aNil))) aNil))) gNx)))))
    (gRet (sVar 2)))))
noncomputable def S_depths : Fn := runD true 5 B_depths
noncomputable def B_all_put_in : SM := (gSeq (gAs (sLst true aNil) (tgN 2))
    (gSeq (gFor (itZip (aCons (sFld "Term" "parts" (sVar 0)) (aCons (sCall 1 S_depths (aCons (sFld "Term" "parts" (sVar 0)) aNil)) aNil))) (tgT 2 (tgCons (tgN 3) (tgCons (tgN 4) tgNil))) (gIf (sB (sDIn (sVar 3) (sVar 1))) (gEx (sMut uExtend (sVar 2) (aCons (sCall 2 S_raised (aCons (sFld "Term" "parts" (sDIxK (sVar 1) (sVar 3))) (aCons (sVar 4) aNil))) aNil))) (gEx (sMut uAppend (sVar 2) (aCons (sVar 3) aNil)))))
    (gRet (sMake false "Term" 2 S_Term___init__ (aCons (sVar 2) aNil)))))
noncomputable def S_all_put_in : Fn := runD true 5 B_all_put_in
noncomputable def B_put_in : SM := (gSeq (gEx (sCall 1 S_check_word (aCons (sVar 1) aNil)))
    (gRet (sCall 2 S_all_put_in (aCons (sVar 0) (aCons (sD1 (sVar 1) (sVar 2)) aNil)))))
noncomputable def S_put_in : Fn := runD true 3 B_put_in
noncomputable def B__law_at : SM := (gSeq (gIf (sB (b2 false dLt (sVar 1) (bN false (on1 dLen) (aCons (sVar 0) aNil)))) (gRet (b2 false dIx (sVar 0) (sVar 1))) gNx)
    (gRet (b2 false dAdd (b2 false (dI cMul fun i j => i * j) (sC (.int 3)) (sVar 1)) (sC (.int 1)))))
noncomputable def S__law_at : Fn := runD true 2 B__law_at
noncomputable def B__law_used (n : Fn) : SM := (gSeq (gIf (sB (b2 false (dEq false) (b2 false dIx (sVar 0) (sC (.int 0))) (sC (.str "l")))) (gRet (sCall 2 n (aCons (b2 false dIx (sVar 0) (sC (.int 1))) (aCons (b2 false dAdd (sVar 1) (sC (.int 1))) aNil)))) gNx)
    (gSeq (gIf (sB (b2 false (dEq false) (b2 false dIx (sVar 0) (sC (.int 0))) (sC (.str "p")))) (gRet (b2 false dAdd (sCall 2 n (aCons (b2 false dIx (sVar 0) (sC (.int 1))) (aCons (sVar 1) aNil))) (sCall 2 n (aCons (b2 false dIx (sVar 0) (sC (.int 2))) (aCons (sVar 1) aNil))))) gNx)
    (gSeq (gIf (bOr (sB (b2 false (dEq false) (b2 false dIx (sVar 0) (sC (.int 0))) (sC (.str "n")))) (sB (b2 false dLt (b2 false dIx (sVar 0) (sC (.int 1))) (sVar 1)))) (gRet (sLst false aNil)) gNx)
    (gRet (sLst false (aCons (b2 false (dI (fun _ _ => true) fun i j => i - j) (b2 false dIx (sVar 0) (sC (.int 1))) (sVar 1)) aNil))))))
noncomputable def S__law_used : Nat → Fn
  | 0 => fun _ _ => none
  | n + 1 => runD true 2 (B__law_used (S__law_used n))
noncomputable def B__law_binder : SM := (gSeq (gAs (b2 false dAdd (sCall 1 (S__law_free 40) (aCons (sVar 1) aNil)) (sComp false [4] (itL (sCall 2 (S__law_used 40) (aCons (sVar 1) (aCons (sC (.int 1)) aNil)))) (tgN 4) tYs (b2 false dIx (sVar 2) (b2 false (dI (fun _ _ => true) fun i j => i - j) (b2 false (dI (fun _ _ => true) fun i j => i - j) (sC (.int 0)) (sC (.int 1))) (sVar 4))))) (tgN 3))
    (gSeq (gAs (b2 false dIx (sLst false (aCons (sC (.str "x")) (aCons (sC (.str "y")) (aCons (sC (.str "a")) (aCons (sC (.str "b")) (aCons (sC (.str "ab")) (aCons (sC (.str "abcdefgh")) (aCons (sC (.str "q")) aNil)))))))) (sCall 2 S__law_take (aCons (sVar 0) (aCons (sC (.int 7)) aNil)))) (tgN 5))
    (gSeq (gIf (sB (b2 false (dInA false) (sVar 5) (sVar 3))) (gAs (b2 false dIx (sCall 2 S__law_words (aCons (sVar 3) (aCons (sC (.int 1)) aNil))) (sC (.int 0))) (tgN 5)) gNx)
    (gRet (sVar 5)))))
noncomputable def S__law_binder : Fn := runD true 6 B__law_binder
noncomputable def B__law_named (n : Fn) : SM := (gSeq (gIf (sB (b2 false (dEq false) (b2 false dIx (sVar 1) (sC (.int 0))) (sC (.str "n")))) (gRet (sVar 1)) gNx)
    (gSeq (gIf (sB (b2 false (dEq false) (b2 false dIx (sVar 1) (sC (.int 0))) (sC (.str "v")))) (gRet (sLst false (aCons (sC (.str "n")) (aCons (b2 false dIx (sVar 2) (b2 false (dI (fun _ _ => true) fun i j => i - j) (b2 false (dI (fun _ _ => true) fun i j => i - j) (sC (.int 0)) (sC (.int 1))) (b2 false dIx (sVar 1) (sC (.int 1))))) aNil)))) gNx)
    (gSeq (gIf (sB (b2 false (dEq false) (b2 false dIx (sVar 1) (sC (.int 0))) (sC (.str "p")))) (gSeq (gAs (sCall 3 n (aCons (sVar 0) (aCons (b2 false dIx (sVar 1) (sC (.int 1))) (aCons (sVar 2) aNil)))) (tgN 3))
    (gRet (sLst false (aCons (sC (.str "p")) (aCons (sVar 3) (aCons (sCall 3 n (aCons (sVar 0) (aCons (b2 false dIx (sVar 1) (sC (.int 2))) (aCons (sVar 2) aNil)))) aNil)))))) gNx)
    (gSeq (gAs (sCall 3 S__law_binder (aCons (sVar 0) (aCons (b2 false dIx (sVar 1) (sC (.int 1))) (aCons (sVar 2) aNil)))) (tgN 4))
    (gRet (sLst false (aCons (sC (.str "l")) (aCons (sVar 4) (aCons (sCall 3 n (aCons (sVar 0) (aCons (b2 false dIx (sVar 1) (sC (.int 1))) (aCons (b2 false dAdd (sVar 2) (sLst false (aCons (sVar 4) aNil))) aNil)))) aNil)))))))))
noncomputable def S__law_named : Nat → Fn
  | 0 => fun _ _ => none
  | n + 1 => runD true 5 (B__law_named (S__law_named n))
noncomputable def B__law_put (n : Fn) : SM := (gSeq (gIf (sB (b2 false (dEq false) (b2 false dIx (sVar 0) (sC (.int 0))) (sC (.str "n")))) (gRet (b2 false dIx (sLst false (aCons (sVar 0) (aCons (sVar 2) aNil))) (bN false (on1 dInt) (aCons (b2 false (dEq false) (b2 false dIx (sVar 0) (sC (.int 1))) (sVar 1)) aNil)))) gNx)
    (gSeq (gIf (sB (b2 false (dEq false) (b2 false dIx (sVar 0) (sC (.int 0))) (sC (.str "l")))) (gRet (sLst false (aCons (sC (.str "l")) (aCons (sCall 3 n (aCons (b2 false dIx (sVar 0) (sC (.int 1))) (aCons (sVar 1) (aCons (sVar 2) aNil)))) aNil)))) gNx)
    (gSeq (gIf (sB (b2 false (dEq false) (b2 false dIx (sVar 0) (sC (.int 0))) (sC (.str "p")))) (gRet (sLst false (aCons (sC (.str "p")) (aCons (sCall 3 n (aCons (b2 false dIx (sVar 0) (sC (.int 1))) (aCons (sVar 1) (aCons (sVar 2) aNil)))) (aCons (sCall 3 n (aCons (b2 false dIx (sVar 0) (sC (.int 2))) (aCons (sVar 1) (aCons (sVar 2) aNil)))) aNil))))) gNx)
    (gRet (sVar 0)))))
noncomputable def S__law_put : Nat → Fn
  | 0 => fun _ _ => none
  | n + 1 => runD true 3 (B__law_put (S__law_put n))
noncomputable def B_Term___eq__ : SM := (gRet (vAnd (bN false (on2 (dIsiC "Term")) (aCons (sVar 1) (aCons (sC (.cls "Term")) aNil))) (b2 false (dEq false) (sFld "Term" "parts" (sVar 0)) (sFld "Term" "parts" (sVar 1)))))
noncomputable def S_Term___eq__ : Fn := runD true 2 B_Term___eq__
noncomputable def B_nth_word : SM := (gSeq (gAs (sLst true aNil) (tgN 1))
    (gSeq (gAs (b2 false dAdd (sVar 0) (sC (.int 1))) (tgN 2))
    (gSeq (gWhile (sB (b2 false dGt (sVar 2) (sC (.int 0)))) (gSeq (gAs (bN false (on2 dDivmod) (aCons (b2 false (dI (fun _ _ => true) fun i j => i - j) (sVar 2) (sC (.int 1))) (aCons (bN false (on1 dLen) (aCons (sC (.str "abcdefghijklmnopqrstuvwxyz")) aNil)) aNil))) (tgT 2 (tgCons (tgN 2) (tgCons (tgN 3) tgNil))))
    (gEx (sMut uAppend (sVar 1) (aCons (b2 false dIx (sC (.str "abcdefghijklmnopqrstuvwxyz")) (sVar 3)) aNil)))))
    (gRet (sJoinRev (sC (.str "")) (sVar 1))))))
noncomputable def S_nth_word : Fn := runD true 4 B_nth_word
noncomputable def B_spare_words : SM := (gSeq (gAs (bN false (on1 dSetOf) (aCons (sVar 0) aNil)) (tgN 2))
    (gSeq (gAs (sLst true aNil) (tgN 3))
    (gSeq (gAs (sC (.int 0)) (tgN 4))
    (gSeq (gWhile (sB (b2 false dLt (bN false (on1 dLen) (aCons (sVar 3) aNil)) (sVar 1))) (gSeq (gAs (sCall 1 S_nth_word (aCons (sVar 4) aNil)) (tgN 5))
    (gSeq (gIf (sB (b2 false (dInA true) (sVar 5) (sVar 2))) (gEx (sMut uAppend (sVar 3) (aCons (sVar 5) aNil))) gNx)
    (gAug 4 false (dI (fun _ _ => true) fun i j => i + j) (sC (.int 1))))))
    (gRet (sVar 3))))))
noncomputable def S_spare_words : Fn := runD true 6 B_spare_words
noncomputable def B_free_words : SM := (gRet (bN false (on1 dSort) (aCons (sCompS [1] (itT (sVar 0)) (tgN 1) (sB (bN false (on2 dIsi) (aCons (sVar 1) (aCons (sC (.ty "str")) aNil)))) (sVar 1)) aNil)))
noncomputable def S_free_words : Fn := runD true 2 B_free_words
noncomputable def B_told_words : SM := (gRet (sCall 2 S_spare_words (aCons (sCall 1 S_free_words (aCons (sVar 0) aNil)) (aCons (bN false (on1 dMax) (aCons (sCall 1 S_depths (aCons (sVar 0) aNil)) aNil)) aNil))))
noncomputable def S_told_words : Fn := runD true 1 B_told_words
noncomputable def B_needs_brackets : SM := (gSeq (gIf (sB (b2 false (dEq false) (sVar 0) (sC (.int (-1))))) (gRet (b2 false (dEq true) (sVar 1) (sC (.str "whole")))) gNx)
    (gRet (vAnd (b2 false (dEq false) (sVar 0) (sC (.int (-2)))) (b2 false (dEq false) (sVar 1) (sC (.str "argument"))))))
noncomputable def S_needs_brackets : Fn := runD true 2 B_needs_brackets
noncomputable def B_text_pieces : SM := (gSeq (gAs (sCall 1 S_told_words (aCons (sVar 0) aNil)) (tgN 1))
    (gSeq (gAs (sLst true aNil) (tgN 2))
    (gSeq (gAs (sLst true (aCons (sTup (aCons (sC (.int 0)) (aCons (sC (.str "whole")) (aCons (sC (.str "")) aNil)))) aNil)) (tgN 3))
    (gSeq (gFor (itT (sVar 0)) (tgN 4) (gSeq (gAs (sMut uPop (sVar 3) aNil) (tgT 3 (tgCons (tgN 5) (tgCons (tgN 6) (tgCons (tgN 7) tgNil)))))
    (gSeq (gIf (sB (sCall 2 S_needs_brackets (aCons (sVar 4) (aCons (sVar 6) aNil)))) (gSeq (gEx (sMut uAppend (sVar 2) (aCons (sC (.str "(")) aNil)))
    (gAs (b2 false dAdd (sC (.str ")")) (sVar 7)) (tgN 7))) gNx)
    (gIf (sB (b2 false (dEq false) (sVar 4) (sC (.int (-1))))) (gSeq (gEx (sMut uAppend (sVar 2) (aCons (sJoined [(sC (.str "[")), (sFmt (b2 false dIx (sVar 1) (sVar 5))), (sC (.str "] "))]) aNil)))
    (gEx (sMut uAppend (sVar 3) (aCons (sTup (aCons (b2 false dAdd (sVar 5) (sC (.int 1))) (aCons (sC (.str "whole")) (aCons (sVar 7) aNil)))) aNil)))) (gIf (sB (b2 false (dEq false) (sVar 4) (sC (.int (-2))))) (gSeq (gEx (sMut uAppend (sVar 3) (aCons (sTup (aCons (sVar 5) (aCons (sC (.str "argument")) (aCons (sVar 7) aNil)))) aNil)))
    (gEx (sMut uAppend (sVar 3) (aCons (sTup (aCons (sVar 5) (aCons (sC (.str "function")) (aCons (sC (.str " ")) aNil)))) aNil)))) (gIf (sB (sCall 1 S_is_level (aCons (sVar 4) aNil))) (gEx (sMut uAppend (sVar 2) (aCons (b2 false dAdd (b2 false dIx (sVar 1) (sVar 4)) (sVar 7)) aNil))) (gEx (sMut uAppend (sVar 2) (aCons (b2 false dAdd (sVar 4) (sVar 7)) aNil)))))))))
    (gRet (sVar 2))))))
noncomputable def S_text_pieces : Fn := runD true 8 B_text_pieces
noncomputable def B_Term___str__ : SM := (gRet (sM "str" false dJoin (sC (.str "")) (aCons (sCall 1 S_text_pieces (aCons (sFld "Term" "parts" (sVar 0)) aNil)) aNil)))
noncomputable def S_Term___str__ : Fn := runD true 1 B_Term___str__
noncomputable def B_law : SM := (gSeq (gFor (itL (b2 false dAdd (bSl false (sVar 0) oN (oS (sC (.int 5)))) (sLst false (aCons (sCall 2 S__law_at (aCons (sVar 0) (aCons (sC (.int 4)) aNil))) aNil)))) (tgN 1) (gSeq (gAs (sCall 2 S__law_purse (aCons (sVar 1) (aCons (sC (.int 4)) aNil))) (tgN 2))
    (gSeq (gAs (sCall 4 (S__law_drawn 40) (aCons (sVar 2) (aCons (sCall 2 S__law_take (aCons (sVar 2) (aCons (sC (.int 5)) aNil))) (aCons (sC (.int 0)) (aCons (b2 false dIx (sLst false (aCons (sLst false aNil) (aCons (sLst false (aCons (sC (.str "x")) (aCons (sC (.str "y")) (aCons (sC (.str "ab")) aNil)))) aNil))) (sCall 2 S__law_take (aCons (sVar 2) (aCons (sC (.int 2)) aNil)))) aNil))))) (tgN 3))
    (gSeq (gAs (sCall 4 (S__law_drawn 40) (aCons (sVar 2) (aCons (sCall 2 S__law_take (aCons (sVar 2) (aCons (sC (.int 4)) aNil))) (aCons (sC (.int 0)) (aCons (sLst false (aCons (sC (.str "a")) (aCons (sC (.str "b")) (aCons (sC (.str "q")) (aCons (sC (.str "y")) aNil))))) aNil))))) (tgN 4))
    (gSeq (gAs (sCall 1 (S__law_made 40) (aCons (sCall 3 (S__law_named 40) (aCons (sVar 2) (aCons (sVar 3) (aCons (sLst false aNil) aNil)))) aNil)) (tgN 5))
    (gSeq (gAs (sCall 1 (S__law_made 40) (aCons (sCall 3 (S__law_named 40) (aCons (sVar 2) (aCons (sVar 4) (aCons (sLst false aNil) aNil)))) aNil)) (tgN 6))
    (gSeq (gAs (b2 false dIx (sLst false (aCons (sC (.str "x")) (aCons (sC (.str "y")) (aCons (sC (.str "ab")) (aCons (sC (.str "q")) (aCons (sC (.str "a")) aNil)))))) (sCall 2 S__law_take (aCons (sVar 2) (aCons (sC (.int 5)) aNil)))) (tgN 7))
    (gSeq (gAs (sCall 1 S__law_text (aCons (sCall 3 (S__law_put 40) (aCons (sVar 3) (aCons (sVar 7) (aCons (sVar 4) aNil)))) aNil)) (tgN 8))
    (gSeq (gIf (bOr (sB (b2 false (dEq true) (sStrOwn "Term" 1 S_Term___str__ (aCons (sCall 3 S_put_in (aCons (sVar 5) (aCons (sVar 7) (aCons (sVar 6) aNil)))) aNil)) (sVar 8))) (sB (b2 false (dEq true) (sStrOwn "Term" 1 S_Term___str__ (aCons (sCallK 3 [2, 1, 0] S_put_in (kCons (sVar 6) (kCons (sVar 7) (kCons (sVar 5) (fun _ S => some (.ok [], S)))))) aNil)) (sVar 8)))) (gRet (sC (.bl false))) gNx)
    (gSeq (gIf (bOr (sB (sOwnCmp "Term" true 2 S_Term___eq__ (sCall 3 S_put_in (aCons (sVar 5) (aCons (sVar 7) (aCons (sCall 1 S_name (aCons (sVar 7) aNil)) aNil)))) (sVar 5))) (bOr (sB (b2 false (dEq true) (sStrOwn "Term" 1 S_Term___str__ (aCons (sVar 5) aNil)) (sCall 1 S__law_text (aCons (sVar 3) aNil)))) (sB (b2 false (dEq true) (sStrOwn "Term" 1 S_Term___str__ (aCons (sVar 6) aNil)) (sCall 1 S__law_text (aCons (sVar 4) aNil)))))) (gRet (sC (.bl false))) gNx)
    (gSeq (gAs (sCall 3 S_put_in (aCons (sVar 5) (aCons (sVar 7) (aCons (sVar 6) aNil)))) (tgN 9))
    (gSeq (gIf (bAnd (sB (b2 false (dInA true) (sVar 7) (sCall 1 (S__law_free 40) (aCons (sVar 4) aNil)))) (sB (sOwnCmp "Term" true 2 S_Term___eq__ (sCall 3 S_put_in (aCons (sVar 9) (aCons (sVar 7) (aCons (sCall 1 S_name (aCons (sC (.str "z")) aNil)) aNil)))) (sVar 9)))) (gRet (sC (.bl false))) gNx)
    (gSeq (gAs (sCall 2 S_put (aCons (sCall 2 S_fun (aCons (sC (.str "q")) (aCons (sVar 5) aNil))) (aCons (sVar 5) aNil))) (tgN 10))
    (gSeq (gIf (bAnd (sB (b2 false (dEq true) (sVar 7) (sC (.str "q")))) (sB (b2 false (dInA true) (sC (.str "q")) (sCall 1 (S__law_free 40) (aCons (sVar 4) aNil))))) (gIf (sB (sOwnCmp "Term" true 2 S_Term___eq__ (sCall 3 S_put_in (aCons (sVar 10) (aCons (sVar 7) (aCons (sVar 6) aNil)))) (sCall 2 S_put (aCons (sCall 2 S_fun (aCons (sC (.str "q")) (aCons (sVar 9) aNil))) (aCons (sVar 9) aNil))))) (gRet (sC (.bl false))) gNx) gNx)
    (gSeq (gAs (sCall 2 S_fun (aCons (sC (.str "a")) (aCons (sCall 2 S_put (aCons (sCall 1 S_name (aCons (sVar 7) aNil)) (aCons (sCall 1 S_name (aCons (sC (.str "a")) aNil)) aNil))) aNil))) (tgN 11))
    (gIf (bAnd (sB (b2 false (dEq true) (sVar 7) (sC (.str "a")))) (sB (b2 false (dEq true) (sStrOwn "Term" 1 S_Term___str__ (aCons (sCall 3 S_put_in (aCons (sVar 11) (aCons (sVar 7) (aCons (sVar 6) aNil)))) aNil)) (sCall 1 S__law_text (aCons (sLst false (aCons (sC (.str "l")) (aCons (sLst false (aCons (sC (.str "p")) (aCons (sVar 4) (aCons (sLst false (aCons (sC (.str "v")) (aCons (sC (.int 0)) aNil))) aNil)))) aNil))) aNil))))) (gRet (sC (.bl false))) gNx))))))))))))))))
    (gRet (sC (.bl true))))
noncomputable def S_law : Fn := runD true 12 B_law
noncomputable def w1 : SM := (gAs (sCall 2 S__law_purse (aCons (sVar 1) (aCons (sC (.int 4)) aNil))) (tgN 2))
noncomputable def w2 : SM := (gAs (sCall 4 (S__law_drawn 40) (aCons (sVar 2) (aCons (sCall 2 S__law_take (aCons (sVar 2) (aCons (sC (.int 5)) aNil))) (aCons (sC (.int 0)) (aCons (b2 false dIx (sLst false (aCons (sLst false aNil) (aCons (sLst false (aCons (sC (.str "x")) (aCons (sC (.str "y")) (aCons (sC (.str "ab")) aNil)))) aNil))) (sCall 2 S__law_take (aCons (sVar 2) (aCons (sC (.int 2)) aNil)))) aNil))))) (tgN 3))
noncomputable def w3 : SM := (gAs (sCall 4 (S__law_drawn 40) (aCons (sVar 2) (aCons (sCall 2 S__law_take (aCons (sVar 2) (aCons (sC (.int 4)) aNil))) (aCons (sC (.int 0)) (aCons (sLst false (aCons (sC (.str "a")) (aCons (sC (.str "b")) (aCons (sC (.str "q")) (aCons (sC (.str "y")) aNil))))) aNil))))) (tgN 4))
noncomputable def w4 : SM := (gAs (sCall 1 (S__law_made 40) (aCons (sCall 3 (S__law_named 40) (aCons (sVar 2) (aCons (sVar 3) (aCons (sLst false aNil) aNil)))) aNil)) (tgN 5))
noncomputable def w5 : SM := (gAs (sCall 1 (S__law_made 40) (aCons (sCall 3 (S__law_named 40) (aCons (sVar 2) (aCons (sVar 4) (aCons (sLst false aNil) aNil)))) aNil)) (tgN 6))
noncomputable def w6 : SM := (gAs (b2 false dIx (sLst false (aCons (sC (.str "x")) (aCons (sC (.str "y")) (aCons (sC (.str "ab")) (aCons (sC (.str "q")) (aCons (sC (.str "a")) aNil)))))) (sCall 2 S__law_take (aCons (sVar 2) (aCons (sC (.int 5)) aNil)))) (tgN 7))
noncomputable def w7 : SM := (gAs (sCall 1 S__law_text (aCons (sCall 3 (S__law_put 40) (aCons (sVar 3) (aCons (sVar 7) (aCons (sVar 4) aNil)))) aNil)) (tgN 8))
noncomputable def w8 : SM := (gIf (bOr (sB (b2 false (dEq true) (sStrOwn "Term" 1 S_Term___str__ (aCons (sCall 3 S_put_in (aCons (sVar 5) (aCons (sVar 7) (aCons (sVar 6) aNil)))) aNil)) (sVar 8))) (sB (b2 false (dEq true) (sStrOwn "Term" 1 S_Term___str__ (aCons (sCallK 3 [2, 1, 0] S_put_in (kCons (sVar 6) (kCons (sVar 7) (kCons (sVar 5) (fun _ S => some (.ok [], S)))))) aNil)) (sVar 8)))) (gRet (sC (.bl false))) gNx)
noncomputable def w9 : SM := (gIf (bOr (sB (sOwnCmp "Term" true 2 S_Term___eq__ (sCall 3 S_put_in (aCons (sVar 5) (aCons (sVar 7) (aCons (sCall 1 S_name (aCons (sVar 7) aNil)) aNil)))) (sVar 5))) (bOr (sB (b2 false (dEq true) (sStrOwn "Term" 1 S_Term___str__ (aCons (sVar 5) aNil)) (sCall 1 S__law_text (aCons (sVar 3) aNil)))) (sB (b2 false (dEq true) (sStrOwn "Term" 1 S_Term___str__ (aCons (sVar 6) aNil)) (sCall 1 S__law_text (aCons (sVar 4) aNil)))))) (gRet (sC (.bl false))) gNx)
noncomputable def w10 : SM := (gAs (sCall 3 S_put_in (aCons (sVar 5) (aCons (sVar 7) (aCons (sVar 6) aNil)))) (tgN 9))
noncomputable def w11 : SM := (gIf (bAnd (sB (b2 false (dInA true) (sVar 7) (sCall 1 (S__law_free 40) (aCons (sVar 4) aNil)))) (sB (sOwnCmp "Term" true 2 S_Term___eq__ (sCall 3 S_put_in (aCons (sVar 9) (aCons (sVar 7) (aCons (sCall 1 S_name (aCons (sC (.str "z")) aNil)) aNil)))) (sVar 9)))) (gRet (sC (.bl false))) gNx)
noncomputable def w12 : SM := (gAs (sCall 2 S_put (aCons (sCall 2 S_fun (aCons (sC (.str "q")) (aCons (sVar 5) aNil))) (aCons (sVar 5) aNil))) (tgN 10))
noncomputable def w13 : SM := (gIf (bAnd (sB (b2 false (dEq true) (sVar 7) (sC (.str "q")))) (sB (b2 false (dInA true) (sC (.str "q")) (sCall 1 (S__law_free 40) (aCons (sVar 4) aNil))))) (gIf (sB (sOwnCmp "Term" true 2 S_Term___eq__ (sCall 3 S_put_in (aCons (sVar 10) (aCons (sVar 7) (aCons (sVar 6) aNil)))) (sCall 2 S_put (aCons (sCall 2 S_fun (aCons (sC (.str "q")) (aCons (sVar 9) aNil))) (aCons (sVar 9) aNil))))) (gRet (sC (.bl false))) gNx) gNx)
noncomputable def w14 : SM := (gAs (sCall 2 S_fun (aCons (sC (.str "a")) (aCons (sCall 2 S_put (aCons (sCall 1 S_name (aCons (sVar 7) aNil)) (aCons (sCall 1 S_name (aCons (sC (.str "a")) aNil)) aNil))) aNil))) (tgN 11))
noncomputable def w15 : SM := (gIf (bAnd (sB (b2 false (dEq true) (sVar 7) (sC (.str "a")))) (sB (b2 false (dEq true) (sStrOwn "Term" 1 S_Term___str__ (aCons (sCall 3 S_put_in (aCons (sVar 11) (aCons (sVar 7) (aCons (sVar 6) aNil)))) aNil)) (sCall 1 S__law_text (aCons (sLst false (aCons (sC (.str "l")) (aCons (sLst false (aCons (sC (.str "p")) (aCons (sVar 4) (aCons (sLst false (aCons (sC (.str "v")) (aCons (sC (.int 0)) aNil))) aNil)))) aNil))) aNil))))) (gRet (sC (.bl false))) gNx)
noncomputable def wBody : SM := (gSeq w1 (gSeq w2 (gSeq w3 (gSeq w4 (gSeq w5 (gSeq w6 (gSeq w7 (gSeq w8 (gSeq w9 (gSeq w10 (gSeq w11 (gSeq w12 (gSeq w13 (gSeq w14 w15))))))))))))))
noncomputable def wIt : Sl → MM (List D) := (itL (b2 false dAdd (bSl false (sVar 0) oN (oS (sC (.int 5)))) (sLst false (aCons (sCall 2 S__law_at (aCons (sVar 0) (aCons (sC (.int 4)) aNil))) aNil))))
theorem B_law_split : B_law = gSeq (gFor wIt (tgN 1) wBody) (gRet (sC (.bl true))) := rfl
theorem kb_put_in (kV doc pm : Value) (an : Option Addr) (cdv ct : Value) (ws : List Value) (hl : (permS [2, 1, 0] ws).length = 3) : bindArgs (PySem.W.fnOf "put_in" "put_in" (defArgs st_put_in) (defBody st_put_in) (defScope st_put_in) .none kV doc pm an cdv ct) ⟨[], List.zip (["other", "word", "term"] : List Str) ws⟩ = pure (List.zip (["term", "word", "other"] : List Str) (permS [2, 1, 0] ws)) := by
  match ws, hl with
  | a0 :: a1 :: a2 :: r, _ => rfl
  | [], h => exact absurd (show 0 = 3 from h) (by decide)
  | [a0], h => exact absurd (show 1 = 3 from h) (by decide)
  | [a0, a1], h => exact absurd (show 2 = 3 from h) (by decide)
/-- the addresses -/
structure Ad where
  f__law_mixed : Addr
  d__law_mixed : FuncData
  f__law_purse : Addr
  d__law_purse : FuncData
  f__law_take : Addr
  d__law_take : FuncData
  f__law_leaf : Addr
  d__law_leaf : FuncData
  f__law_drawn : Addr
  d__law_drawn : FuncData
  f_is_letter : Addr
  d_is_letter : FuncData
  f_is_word : Addr
  d_is_word : FuncData
  f_check_word : Addr
  d_check_word : FuncData
  f_Term___init__ : Addr
  d_Term___init__ : FuncData
  f_is_level : Addr
  d_is_level : FuncData
  f_raised : Addr
  d_raised : FuncData
  f_fun : Addr
  d_fun : FuncData
  f_name : Addr
  d_name : FuncData
  f_put : Addr
  d_put : FuncData
  f__law_made : Addr
  d__law_made : FuncData
  f__law_written : Addr
  d__law_written : FuncData
  f__law_words : Addr
  d__law_words : FuncData
  f__law_free : Addr
  d__law_free : FuncData
  f__law_text : Addr
  d__law_text : FuncData
  f_depths : Addr
  d_depths : FuncData
  f_all_put_in : Addr
  d_all_put_in : FuncData
  f_put_in : Addr
  d_put_in : FuncData
  f__law_at : Addr
  d__law_at : FuncData
  f__law_used : Addr
  d__law_used : FuncData
  f__law_binder : Addr
  d__law_binder : FuncData
  f__law_named : Addr
  d__law_named : FuncData
  f__law_put : Addr
  d__law_put : FuncData
  f_Term___eq__ : Addr
  d_Term___eq__ : FuncData
  f_nth_word : Addr
  d_nth_word : FuncData
  f_spare_words : Addr
  d_spare_words : FuncData
  f_free_words : Addr
  d_free_words : FuncData
  f_told_words : Addr
  d_told_words : FuncData
  f_needs_brackets : Addr
  d_needs_brackets : FuncData
  f_text_pieces : Addr
  d_text_pieces : FuncData
  f_Term___str__ : Addr
  d_Term___str__ : FuncData
  f_law : Addr
  d_law : FuncData
/-- what the top has made -/
structure Txt (K : PySem.W.Frag) (mg : Str → Option Value) (a : Ad) : Prop where
  cl : Cls K (clsMap K "Term")
  n_parts : NoAttr K (clsMap K "Term") "parts"
  m_Term : mg "Term" = some (.ref (clsMap K "Term"))
  mkT : Mk K (clsMap K "Term") a.f_Term___init__
  own : ∃ fl, OwnC K (clsMap K "Term") a.f_Term___eq__ a.f_Term___str__ fl
  m_NoWord : mg "NoWord" = some (.ref (clsMap K "NoWord"))
  xx_NoWord : PySem.W.excIn K (clsMap K "NoWord") [.type "ValueError", .type "Exception", .type "BaseException", .type "object"] "ValueError.__new__" = true
  xk_NoWord : PySem.W.keepIn K (.ref (clsMap K "NoWord")) = true
  xs_NoWord : PySem.W.subIn K (.ref (clsMap K "NoWord")) (.type "BaseException") = some true
  xt_NoWord : PySem.W.typeIn K (.ref (clsMap K "NoWord")) = some (.type "type")
  b_all : mg "all" = none
  b_divmod : mg "divmod" = none
  b_int : mg "int" = none
  b_isinstance : mg "isinstance" = none
  b_len : mg "len" = none
  b_list : mg "list" = none
  b_max : mg "max" = none
  b_reversed : mg "reversed" = none
  b_set : mg "set" = none
  b_sorted : mg "sorted" = none
  b_str : mg "str" = none
  b_tuple : mg "tuple" = none
  b_zip : mg "zip" = none
  g_ARGUMENT : ∃ t, mg "ARGUMENT" = some (.str "argument" t)
  g_FUN : ∃ t, mg "FUN" = some (.int (-1) t)
  g_FUNCTION : ∃ t, mg "FUNCTION" = some (.str "function" t)
  g_LETTERS : ∃ t, mg "LETTERS" = some (.str "abcdefghijklmnopqrstuvwxyz" t)
  g_LONGEST : ∃ t, mg "LONGEST" = some (.int (8) t)
  g_PUT : ∃ t, mg "PUT" = some (.int (-2) t)
  g_WHOLE : ∃ t, mg "WHOLE" = some (.str "whole" t)
  F__law_mixed : Fun K "_law_mixed" "_law_mixed" st__law_mixed a.f__law_mixed a.d__law_mixed
  b__law_mixed : Binds K a.d__law_mixed ["cell", "k"] []
  m__law_mixed : mg "_law_mixed" = some (.ref a.f__law_mixed)
  k__law_mixed : PySem.W.keepIn K (.ref a.f__law_mixed) = true
  F__law_purse : Fun K "_law_purse" "_law_purse" st__law_purse a.f__law_purse a.d__law_purse
  b__law_purse : Binds K a.d__law_purse ["cell", "k"] []
  m__law_purse : mg "_law_purse" = some (.ref a.f__law_purse)
  k__law_purse : PySem.W.keepIn K (.ref a.f__law_purse) = true
  F__law_take : Fun K "_law_take" "_law_take" st__law_take a.f__law_take a.d__law_take
  b__law_take : Binds K a.d__law_take ["purse", "many"] []
  m__law_take : mg "_law_take" = some (.ref a.f__law_take)
  k__law_take : PySem.W.keepIn K (.ref a.f__law_take) = true
  F__law_leaf : Fun K "_law_leaf" "_law_leaf" st__law_leaf a.f__law_leaf a.d__law_leaf
  b__law_leaf : Binds K a.d__law_leaf ["purse", "depth", "free"] []
  m__law_leaf : mg "_law_leaf" = some (.ref a.f__law_leaf)
  k__law_leaf : PySem.W.keepIn K (.ref a.f__law_leaf) = true
  F__law_drawn : Fun K "_law_drawn" "_law_drawn" st__law_drawn a.f__law_drawn a.d__law_drawn
  b__law_drawn : Binds K a.d__law_drawn ["purse", "deep", "depth", "free"] []
  m__law_drawn : mg "_law_drawn" = some (.ref a.f__law_drawn)
  k__law_drawn : PySem.W.keepIn K (.ref a.f__law_drawn) = true
  F_is_letter : Fun K "is_letter" "is_letter" st_is_letter a.f_is_letter a.d_is_letter
  b_is_letter : Binds K a.d_is_letter ["sign"] []
  m_is_letter : mg "is_letter" = some (.ref a.f_is_letter)
  k_is_letter : PySem.W.keepIn K (.ref a.f_is_letter) = true
  F_is_word : Fun K "is_word" "is_word" st_is_word a.f_is_word a.d_is_word
  b_is_word : Binds K a.d_is_word ["thing"] []
  m_is_word : mg "is_word" = some (.ref a.f_is_word)
  k_is_word : PySem.W.keepIn K (.ref a.f_is_word) = true
  F_check_word : Fun K "check_word" "check_word" st_check_word a.f_check_word a.d_check_word
  b_check_word : Binds K a.d_check_word ["word"] []
  m_check_word : mg "check_word" = some (.ref a.f_check_word)
  k_check_word : PySem.W.keepIn K (.ref a.f_check_word) = true
  F_Term___init__ : Fun K "__init__" "Term.__init__" st_Term___init__ a.f_Term___init__ a.d_Term___init__
  b_Term___init__ : Binds K a.d_Term___init__ ["self", "parts"] []
  F_is_level : Fun K "is_level" "is_level" st_is_level a.f_is_level a.d_is_level
  b_is_level : Binds K a.d_is_level ["part"] []
  m_is_level : mg "is_level" = some (.ref a.f_is_level)
  k_is_level : PySem.W.keepIn K (.ref a.f_is_level) = true
  F_raised : Fun K "raised" "raised" st_raised a.f_raised a.d_raised
  b_raised : Binds K a.d_raised ["parts", "by"] []
  m_raised : mg "raised" = some (.ref a.f_raised)
  k_raised : PySem.W.keepIn K (.ref a.f_raised) = true
  F_fun : Fun K "fun" "fun" st_fun a.f_fun a.d_fun
  b_fun : Binds K a.d_fun ["word", "body"] []
  m_fun : mg "fun" = some (.ref a.f_fun)
  k_fun : PySem.W.keepIn K (.ref a.f_fun) = true
  F_name : Fun K "name" "name" st_name a.f_name a.d_name
  b_name : Binds K a.d_name ["word"] []
  m_name : mg "name" = some (.ref a.f_name)
  k_name : PySem.W.keepIn K (.ref a.f_name) = true
  F_put : Fun K "put" "put" st_put a.f_put a.d_put
  b_put : Binds K a.d_put ["function", "argument"] []
  m_put : mg "put" = some (.ref a.f_put)
  k_put : PySem.W.keepIn K (.ref a.f_put) = true
  F__law_made : Fun K "_law_made" "_law_made" st__law_made a.f__law_made a.d__law_made
  b__law_made : Binds K a.d__law_made ["named"] []
  m__law_made : mg "_law_made" = some (.ref a.f__law_made)
  k__law_made : PySem.W.keepIn K (.ref a.f__law_made) = true
  F__law_written : Fun K "_law_written" "_law_written" st__law_written a.f__law_written a.d__law_written
  b__law_written : Binds K a.d__law_written ["tree", "words", "depth"] []
  m__law_written : mg "_law_written" = some (.ref a.f__law_written)
  k__law_written : PySem.W.keepIn K (.ref a.f__law_written) = true
  F__law_words : Fun K "_law_words" "_law_words" st__law_words a.f__law_words a.d__law_words
  b__law_words : Binds K a.d__law_words ["free", "many"] []
  m__law_words : mg "_law_words" = some (.ref a.f__law_words)
  k__law_words : PySem.W.keepIn K (.ref a.f__law_words) = true
  F__law_free : Fun K "_law_free" "_law_free" st__law_free a.f__law_free a.d__law_free
  b__law_free : Binds K a.d__law_free ["tree"] []
  m__law_free : mg "_law_free" = some (.ref a.f__law_free)
  k__law_free : PySem.W.keepIn K (.ref a.f__law_free) = true
  F__law_text : Fun K "_law_text" "_law_text" st__law_text a.f__law_text a.d__law_text
  b__law_text : Binds K a.d__law_text ["tree"] []
  m__law_text : mg "_law_text" = some (.ref a.f__law_text)
  k__law_text : PySem.W.keepIn K (.ref a.f__law_text) = true
  F_depths : Fun K "depths" "depths" st_depths a.f_depths a.d_depths
  b_depths : Binds K a.d_depths ["parts"] []
  m_depths : mg "depths" = some (.ref a.f_depths)
  k_depths : PySem.W.keepIn K (.ref a.f_depths) = true
  F_all_put_in : Fun K "all_put_in" "all_put_in" st_all_put_in a.f_all_put_in a.d_all_put_in
  b_all_put_in : Binds K a.d_all_put_in ["term", "others"] []
  m_all_put_in : mg "all_put_in" = some (.ref a.f_all_put_in)
  k_all_put_in : PySem.W.keepIn K (.ref a.f_all_put_in) = true
  F_put_in : Fun K "put_in" "put_in" st_put_in a.f_put_in a.d_put_in
  b_put_in : Binds K a.d_put_in ["term", "word", "other"] []
  m_put_in : mg "put_in" = some (.ref a.f_put_in)
  k_put_in : PySem.W.keepIn K (.ref a.f_put_in) = true
  F__law_at : Fun K "_law_at" "_law_at" st__law_at a.f__law_at a.d__law_at
  b__law_at : Binds K a.d__law_at ["script", "k"] []
  m__law_at : mg "_law_at" = some (.ref a.f__law_at)
  k__law_at : PySem.W.keepIn K (.ref a.f__law_at) = true
  F__law_used : Fun K "_law_used" "_law_used" st__law_used a.f__law_used a.d__law_used
  b__law_used : Binds K a.d__law_used ["tree", "depth"] []
  m__law_used : mg "_law_used" = some (.ref a.f__law_used)
  k__law_used : PySem.W.keepIn K (.ref a.f__law_used) = true
  F__law_binder : Fun K "_law_binder" "_law_binder" st__law_binder a.f__law_binder a.d__law_binder
  b__law_binder : Binds K a.d__law_binder ["purse", "inside", "words"] []
  m__law_binder : mg "_law_binder" = some (.ref a.f__law_binder)
  k__law_binder : PySem.W.keepIn K (.ref a.f__law_binder) = true
  F__law_named : Fun K "_law_named" "_law_named" st__law_named a.f__law_named a.d__law_named
  b__law_named : Binds K a.d__law_named ["purse", "tree", "words"] []
  m__law_named : mg "_law_named" = some (.ref a.f__law_named)
  k__law_named : PySem.W.keepIn K (.ref a.f__law_named) = true
  F__law_put : Fun K "_law_put" "_law_put" st__law_put a.f__law_put a.d__law_put
  b__law_put : Binds K a.d__law_put ["tree", "said", "that"] []
  m__law_put : mg "_law_put" = some (.ref a.f__law_put)
  k__law_put : PySem.W.keepIn K (.ref a.f__law_put) = true
  F_Term___eq__ : Fun K "__eq__" "Term.__eq__" st_Term___eq__ a.f_Term___eq__ a.d_Term___eq__
  b_Term___eq__ : Binds K a.d_Term___eq__ ["self", "other"] []
  F_nth_word : Fun K "nth_word" "nth_word" st_nth_word a.f_nth_word a.d_nth_word
  b_nth_word : Binds K a.d_nth_word ["number"] []
  m_nth_word : mg "nth_word" = some (.ref a.f_nth_word)
  k_nth_word : PySem.W.keepIn K (.ref a.f_nth_word) = true
  F_spare_words : Fun K "spare_words" "spare_words" st_spare_words a.f_spare_words a.d_spare_words
  b_spare_words : Binds K a.d_spare_words ["taken", "many"] []
  m_spare_words : mg "spare_words" = some (.ref a.f_spare_words)
  k_spare_words : PySem.W.keepIn K (.ref a.f_spare_words) = true
  F_free_words : Fun K "free_words" "free_words" st_free_words a.f_free_words a.d_free_words
  b_free_words : Binds K a.d_free_words ["parts"] []
  m_free_words : mg "free_words" = some (.ref a.f_free_words)
  k_free_words : PySem.W.keepIn K (.ref a.f_free_words) = true
  F_told_words : Fun K "told_words" "told_words" st_told_words a.f_told_words a.d_told_words
  b_told_words : Binds K a.d_told_words ["parts"] []
  m_told_words : mg "told_words" = some (.ref a.f_told_words)
  k_told_words : PySem.W.keepIn K (.ref a.f_told_words) = true
  F_needs_brackets : Fun K "needs_brackets" "needs_brackets" st_needs_brackets a.f_needs_brackets a.d_needs_brackets
  b_needs_brackets : Binds K a.d_needs_brackets ["part", "place"] []
  m_needs_brackets : mg "needs_brackets" = some (.ref a.f_needs_brackets)
  k_needs_brackets : PySem.W.keepIn K (.ref a.f_needs_brackets) = true
  F_text_pieces : Fun K "text_pieces" "text_pieces" st_text_pieces a.f_text_pieces a.d_text_pieces
  b_text_pieces : Binds K a.d_text_pieces ["parts"] []
  m_text_pieces : mg "text_pieces" = some (.ref a.f_text_pieces)
  k_text_pieces : PySem.W.keepIn K (.ref a.f_text_pieces) = true
  F_Term___str__ : Fun K "__str__" "Term.__str__" st_Term___str__ a.f_Term___str__ a.d_Term___str__
  b_Term___str__ : Binds K a.d_Term___str__ ["self"] []
  F_law : Fun K "law" "law" st_law a.f_law a.d_law
  b_law : Binds K a.d_law ["script"] []
  m_law : mg "law" = some (.ref a.f_law)
  k_law : PySem.W.keepIn K (.ref a.f_law) = true
section
variable {P : Program} {w : World} {K : PySem.W.Frag} {mg : Str → Option Value} {base : Heap} {a : Ad}
theorem ok__law_mixed (T : Txt K mg a) : FnOk P w K mg base (L2.CX P w) 1 a.f__law_mixed a.d__law_mixed ["cell", "k"] (spG ⟨K, P, w⟩ 2 S__law_mixed) := by
  exact fn_ok (k := 0) (N := ["cell", "k", "number"]) (ps := ["cell", "k"]) (g := B__law_mixed) true T.F__law_mixed sc__law_mixed fun cdv A outer s H E hr =>
      (fs_cons (fs_set (i := 2) sc__law_mixed.nd rfl (by first | exact Or.inl rfl | exact Or.inr rfl) (fe_add false (fe_add false (fe_mul (fe_add false (fe_mod (fe_var (i := 0) rfl (by first | exact Or.inl rfl | exact Or.inr (Or.inl rfl) | exact Or.inr (Or.inr rfl))) (fe_add false (fe_pow fe_int fe_int) fe_int)) (fe_mul fe_int (fe_var (i := 1) rfl (by first | exact Or.inl rfl | exact Or.inr (Or.inl rfl) | exact Or.inr (Or.inr rfl))))) fe_int) (fe_mul fe_int (fe_var (i := 1) rfl (by first | exact Or.inl rfl | exact Or.inr (Or.inl rfl) | exact Or.inr (Or.inr rfl))))) fe_int))
      (fs_cons (fs_set (i := 2) sc__law_mixed.nd rfl (by first | exact Or.inl rfl | exact Or.inr rfl) (fe_mod (fe_mul (fe_var (i := 2) rfl (by first | exact Or.inl rfl | exact Or.inr (Or.inl rfl) | exact Or.inr (Or.inr rfl))) (fe_var (i := 2) rfl (by first | exact Or.inl rfl | exact Or.inr (Or.inl rfl) | exact Or.inr (Or.inr rfl)))) (fe_add false (fe_pow fe_int fe_int) fe_int)))
      (fs_one (fs_ret (fe_mod (fe_mul (fe_add false (fe_var (i := 2) rfl (by first | exact Or.inl rfl | exact Or.inr (Or.inl rfl) | exact Or.inr (Or.inr rfl))) fe_int) (fe_add false (fe_var (i := 2) rfl (by first | exact Or.inl rfl | exact Or.inr (Or.inl rfl) | exact Or.inr (Or.inr rfl))) fe_int)) (fe_add false (fe_pow fe_int fe_int) fe_int))))))
theorem ok__law_purse (T : Txt K mg a) : FnOk P w K mg base (L2.CX P w) 4 a.f__law_purse a.d__law_purse ["cell", "k"] (spG ⟨K, P, w⟩ 2 S__law_purse) := by
  have G__law_mixed := ok__law_mixed (P := P) (w := w) (base := base) T
  exact fn_ok (k := 3) (N := ["cell", "k"]) (ps := ["cell", "k"]) (g := B__law_purse) false T.F__law_purse sc__law_purse fun cdv A outer s H E hr =>
      (fs_cons (fs_if (ft_ge (fe_var (i := 0) rfl (by first | exact Or.inl rfl | exact Or.inr (Or.inl rfl) | exact Or.inr (Or.inr rfl))) (fe_pow fe_int fe_int)) (fs_one (fs_ret (fe_lst true (fa_cons (fe_mod (fe_sub (fe_var (i := 0) rfl (by first | exact Or.inl rfl | exact Or.inr (Or.inl rfl) | exact Or.inr (Or.inr rfl))) (fe_pow fe_int fe_int)) (fe_pow (fe_pow fe_int fe_int) fe_int)) (fa_cons fe_int (fa_cons (fe_var (i := 1) rfl (by first | exact Or.inl rfl | exact Or.inr (Or.inl rfl) | exact Or.inr (Or.inr rfl))) fa_nil)))))) fs_nil)
      (fs_one (fs_ret (fe_lst true (fa_cons (fe_call (xok_of (takes_of rfl rfl rfl rfl)) G__law_mixed (hr.mono (by decide)) rfl T.m__law_mixed T.k__law_mixed T.b__law_mixed (fa_cons (fe_var (i := 0) rfl (by first | exact Or.inl rfl | exact Or.inr (Or.inl rfl) | exact Or.inr (Or.inr rfl))) (fa_cons (fe_var (i := 1) rfl (by first | exact Or.inl rfl | exact Or.inr (Or.inl rfl) | exact Or.inr (Or.inr rfl))) fa_nil))) (fa_cons fe_int (fa_cons (fe_add false (fe_mod (fe_var (i := 0) rfl (by first | exact Or.inl rfl | exact Or.inr (Or.inl rfl) | exact Or.inr (Or.inr rfl))) (fe_add false (fe_pow fe_int fe_int) fe_int)) (fe_var (i := 1) rfl (by first | exact Or.inl rfl | exact Or.inr (Or.inl rfl) | exact Or.inr (Or.inr rfl)))) fa_nil)))))))
theorem ok__law_take (T : Txt K mg a) : FnOk P w K mg base (L2.CX P w) 4 a.f__law_take a.d__law_take ["purse", "many"] (spG ⟨K, P, w⟩ 2 S__law_take) := by
  have G__law_mixed := ok__law_mixed (P := P) (w := w) (base := base) T
  exact fn_ok (k := 3) (N := ["purse", "many", "got"]) (ps := ["purse", "many"]) (g := B__law_take) true T.F__law_take sc__law_take fun cdv A outer s H E hr =>
      (fs_cons (fs_if (ft_lt (fe_sub1 (fe_var (i := 0) rfl (by first | exact Or.inl rfl | exact Or.inr (Or.inl rfl) | exact Or.inr (Or.inr rfl))) fe_int) (fe_var (i := 1) rfl (by first | exact Or.inl rfl | exact Or.inr (Or.inl rfl) | exact Or.inr (Or.inr rfl)))) (fs_cons (fs_asg (fe_add false (fe_sub1 (fe_var (i := 0) rfl (by first | exact Or.inl rfl | exact Or.inr (Or.inl rfl) | exact Or.inr (Or.inr rfl))) fe_int) fe_int) (fg_sub (fe_var (i := 0) rfl (by first | exact Or.inl rfl | exact Or.inr (Or.inl rfl) | exact Or.inr (Or.inr rfl))) fe_int))
      (fs_one (fs_asg (fe_add false (fe_sub1 (fe_var (i := 0) rfl (by first | exact Or.inl rfl | exact Or.inr (Or.inl rfl) | exact Or.inr (Or.inr rfl))) fe_int) (fe_mul (fe_var (i := 1) rfl (by first | exact Or.inl rfl | exact Or.inr (Or.inl rfl) | exact Or.inr (Or.inr rfl))) (fe_call (xok_of (takes_of rfl rfl rfl rfl)) G__law_mixed (hr.mono (by decide)) rfl T.m__law_mixed T.k__law_mixed T.b__law_mixed (fa_cons (fe_sub1 (fe_var (i := 0) rfl (by first | exact Or.inl rfl | exact Or.inr (Or.inl rfl) | exact Or.inr (Or.inr rfl))) fe_int) (fa_cons (fe_add false (fe_mul fe_int (fe_sub1 (fe_var (i := 0) rfl (by first | exact Or.inl rfl | exact Or.inr (Or.inl rfl) | exact Or.inr (Or.inr rfl))) fe_int)) fe_int) fa_nil))))) (fg_sub (fe_var (i := 0) rfl (by first | exact Or.inl rfl | exact Or.inr (Or.inl rfl) | exact Or.inr (Or.inr rfl))) fe_int)))) fs_nil)
      (fs_cons (fs_set (i := 2) sc__law_take.nd rfl (by first | exact Or.inl rfl | exact Or.inr rfl) (fe_mod (fe_sub1 (fe_var (i := 0) rfl (by first | exact Or.inl rfl | exact Or.inr (Or.inl rfl) | exact Or.inr (Or.inr rfl))) fe_int) (fe_var (i := 1) rfl (by first | exact Or.inl rfl | exact Or.inr (Or.inl rfl) | exact Or.inr (Or.inr rfl)))))
      (fs_cons (fs_asg (fe_fdiv (fe_sub1 (fe_var (i := 0) rfl (by first | exact Or.inl rfl | exact Or.inr (Or.inl rfl) | exact Or.inr (Or.inr rfl))) fe_int) (fe_var (i := 1) rfl (by first | exact Or.inl rfl | exact Or.inr (Or.inl rfl) | exact Or.inr (Or.inr rfl)))) (fg_sub (fe_var (i := 0) rfl (by first | exact Or.inl rfl | exact Or.inr (Or.inl rfl) | exact Or.inr (Or.inr rfl))) fe_int))
      (fs_one (fs_ret (fe_var (i := 2) rfl (by first | exact Or.inl rfl | exact Or.inr (Or.inl rfl) | exact Or.inr (Or.inr rfl))))))))
theorem ok__law_leaf (T : Txt K mg a) : FnOk P w K mg base (L2.CX P w) 7 a.f__law_leaf a.d__law_leaf ["purse", "depth", "free"] (spG ⟨K, P, w⟩ 3 S__law_leaf) := by
  have G__law_take := ok__law_take (P := P) (w := w) (base := base) T
  exact fn_ok (k := 6) (N := ["purse", "depth", "free"]) (ps := ["purse", "depth", "free"]) (g := B__law_leaf) true T.F__law_leaf sc__law_leaf fun cdv A outer s H E hr =>
      (fs_cons (fs_if (ft_w (fw_and (ft_ne hr.units (fe_var (i := 2) rfl (by first | exact Or.inl rfl | exact Or.inr (Or.inl rfl) | exact Or.inr (Or.inr rfl))) (fe_lst false fa_nil)) (fw_and1 (ft_w (fw_or (ft_eq hr.units (fe_var (i := 1) rfl (by first | exact Or.inl rfl | exact Or.inr (Or.inl rfl) | exact Or.inr (Or.inr rfl))) fe_int) (fw_or1 (ft_eq hr.units (fe_call (xok_of (takes_of rfl rfl rfl rfl)) G__law_take (hr.mono (by decide)) rfl T.m__law_take T.k__law_take T.b__law_take (fa_cons (fe_var (i := 0) rfl (by first | exact Or.inl rfl | exact Or.inr (Or.inl rfl) | exact Or.inr (Or.inr rfl))) (fa_cons fe_int fa_nil))) fe_int))))))) (fs_one (fs_ret (fe_lst false (fa_cons fe_str (fa_cons (fe_sub1 (fe_var (i := 2) rfl (by first | exact Or.inl rfl | exact Or.inr (Or.inl rfl) | exact Or.inr (Or.inr rfl))) (fe_call (xok_of (takes_of rfl rfl rfl rfl)) G__law_take (hr.mono (by decide)) rfl T.m__law_take T.k__law_take T.b__law_take (fa_cons (fe_var (i := 0) rfl (by first | exact Or.inl rfl | exact Or.inr (Or.inl rfl) | exact Or.inr (Or.inr rfl))) (fa_cons (fe_len rfl T.b_len (fa_cons (fe_var (i := 2) rfl (by first | exact Or.inl rfl | exact Or.inr (Or.inl rfl) | exact Or.inr (Or.inr rfl))) fa_nil)) fa_nil)))) fa_nil))))) fs_nil)
      (fs_cons (fs_if (ft_eq hr.units (fe_var (i := 1) rfl (by first | exact Or.inl rfl | exact Or.inr (Or.inl rfl) | exact Or.inr (Or.inr rfl))) fe_int) (fs_one (fs_ret (fe_lst false (fa_cons fe_str (fa_cons (fe_lst false (fa_cons fe_str (fa_cons fe_int fa_nil))) fa_nil))))) fs_nil)
      (fs_one (fs_ret (fe_lst false (fa_cons fe_str (fa_cons (fe_call (xok_of (takes_of rfl rfl rfl rfl)) G__law_take (hr.mono (by decide)) rfl T.m__law_take T.k__law_take T.b__law_take (fa_cons (fe_var (i := 0) rfl (by first | exact Or.inl rfl | exact Or.inr (Or.inl rfl) | exact Or.inr (Or.inr rfl))) (fa_cons (fe_var (i := 1) rfl (by first | exact Or.inl rfl | exact Or.inr (Or.inl rfl) | exact Or.inr (Or.inr rfl))) fa_nil))) fa_nil)))))))
theorem ok__law_drawn_n (T : Txt K mg a) (n : Nat) : FnOk P w K mg base (L2.CX P w) (10 + n) a.f__law_drawn a.d__law_drawn ["purse", "deep", "depth", "free"] (spG ⟨K, P, w⟩ 4 (S__law_drawn n)) := by
  have G__law_take := ok__law_take (P := P) (w := w) (base := base) T
  have G__law_leaf := ok__law_leaf (P := P) (w := w) (base := base) T
  induction n with
  | zero => exact fn_none (ps := ["purse", "deep", "depth", "free"]) _
  | succ n ih => exact fn_ok (N := ["purse", "deep", "depth", "free", "way", "this"]) (ps := ["purse", "deep", "depth", "free"]) (g := B__law_drawn (S__law_drawn n)) true T.F__law_drawn sc__law_drawn fun cdv A outer s H E hr =>
      (fs_cons (fs_set (i := 4) sc__law_drawn.nd rfl (by first | exact Or.inl rfl | exact Or.inr rfl) (fe_call (xok_of (takes_of rfl rfl rfl rfl)) G__law_take (hr.mono (by show _ ≤ 10 + n; omega)) rfl T.m__law_take T.k__law_take T.b__law_take (fa_cons (fe_var (i := 0) rfl (by first | exact Or.inl rfl | exact Or.inr (Or.inl rfl) | exact Or.inr (Or.inr rfl))) (fa_cons fe_int fa_nil))))
      (fs_cons (fs_if (ft_w (fw_or (ft_eq hr.units (fe_var (i := 1) rfl (by first | exact Or.inl rfl | exact Or.inr (Or.inl rfl) | exact Or.inr (Or.inr rfl))) fe_int) (fw_or1 (ft_eq hr.units (fe_var (i := 4) rfl (by first | exact Or.inl rfl | exact Or.inr (Or.inl rfl) | exact Or.inr (Or.inr rfl))) fe_int)))) (fs_one (fs_ret (fe_call (xok_of (takes_of rfl rfl rfl rfl)) G__law_leaf (hr.mono (by show _ ≤ 10 + n; omega)) rfl T.m__law_leaf T.k__law_leaf T.b__law_leaf (fa_cons (fe_var (i := 0) rfl (by first | exact Or.inl rfl | exact Or.inr (Or.inl rfl) | exact Or.inr (Or.inr rfl))) (fa_cons (fe_var (i := 2) rfl (by first | exact Or.inl rfl | exact Or.inr (Or.inl rfl) | exact Or.inr (Or.inr rfl))) (fa_cons (fe_var (i := 3) rfl (by first | exact Or.inl rfl | exact Or.inr (Or.inl rfl) | exact Or.inr (Or.inr rfl))) fa_nil)))))) fs_nil)
      (fs_cons (fs_if (ft_lt (fe_var (i := 4) rfl (by first | exact Or.inl rfl | exact Or.inr (Or.inl rfl) | exact Or.inr (Or.inr rfl))) fe_int) (fs_one (fs_ret (fe_lst false (fa_cons fe_str (fa_cons (fe_call (xok_of (takes_of rfl rfl rfl rfl)) ih hr rfl T.m__law_drawn T.k__law_drawn T.b__law_drawn (fa_cons (fe_var (i := 0) rfl (by first | exact Or.inl rfl | exact Or.inr (Or.inl rfl) | exact Or.inr (Or.inr rfl))) (fa_cons (fe_sub (fe_var (i := 1) rfl (by first | exact Or.inl rfl | exact Or.inr (Or.inl rfl) | exact Or.inr (Or.inr rfl))) fe_int) (fa_cons (fe_add false (fe_var (i := 2) rfl (by first | exact Or.inl rfl | exact Or.inr (Or.inl rfl) | exact Or.inr (Or.inr rfl))) fe_int) (fa_cons (fe_var (i := 3) rfl (by first | exact Or.inl rfl | exact Or.inr (Or.inl rfl) | exact Or.inr (Or.inr rfl))) fa_nil))))) fa_nil))))) fs_nil)
      (fs_cons (fs_set (i := 5) sc__law_drawn.nd rfl (by first | exact Or.inl rfl | exact Or.inr rfl) (fe_call (xok_of (takes_of rfl rfl rfl rfl)) ih hr rfl T.m__law_drawn T.k__law_drawn T.b__law_drawn (fa_cons (fe_var (i := 0) rfl (by first | exact Or.inl rfl | exact Or.inr (Or.inl rfl) | exact Or.inr (Or.inr rfl))) (fa_cons (fe_sub (fe_var (i := 1) rfl (by first | exact Or.inl rfl | exact Or.inr (Or.inl rfl) | exact Or.inr (Or.inr rfl))) fe_int) (fa_cons (fe_var (i := 2) rfl (by first | exact Or.inl rfl | exact Or.inr (Or.inl rfl) | exact Or.inr (Or.inr rfl))) (fa_cons (fe_var (i := 3) rfl (by first | exact Or.inl rfl | exact Or.inr (Or.inl rfl) | exact Or.inr (Or.inr rfl))) fa_nil))))))
      (fs_one (fs_ret (fe_lst false (fa_cons fe_str (fa_cons (fe_var (i := 5) rfl (by first | exact Or.inl rfl | exact Or.inr (Or.inl rfl) | exact Or.inr (Or.inr rfl))) (fa_cons (fe_call (xok_of (takes_of rfl rfl rfl rfl)) ih hr rfl T.m__law_drawn T.k__law_drawn T.b__law_drawn (fa_cons (fe_var (i := 0) rfl (by first | exact Or.inl rfl | exact Or.inr (Or.inl rfl) | exact Or.inr (Or.inr rfl))) (fa_cons (fe_sub (fe_var (i := 1) rfl (by first | exact Or.inl rfl | exact Or.inr (Or.inl rfl) | exact Or.inr (Or.inr rfl))) fe_int) (fa_cons (fe_var (i := 2) rfl (by first | exact Or.inl rfl | exact Or.inr (Or.inl rfl) | exact Or.inr (Or.inr rfl))) (fa_cons (fe_var (i := 3) rfl (by first | exact Or.inl rfl | exact Or.inr (Or.inl rfl) | exact Or.inr (Or.inr rfl))) fa_nil))))) fa_nil))))))))))
theorem ok__law_drawn (T : Txt K mg a) : FnOk P w K mg base (L2.CX P w) 50 a.f__law_drawn a.d__law_drawn ["purse", "deep", "depth", "free"] (spG ⟨K, P, w⟩ 4 (S__law_drawn 40)) := ok__law_drawn_n T 40
theorem ok_is_letter (T : Txt K mg a) : FnOk P w K mg base (L2.CX P w) 1 a.f_is_letter a.d_is_letter ["sign"] (spG ⟨K, P, w⟩ 1 S_is_letter) := by
  exact fn_ok (k := 0) (N := ["sign"]) (ps := ["sign"]) (g := B_is_letter) true T.F_is_letter sc_is_letter fun cdv A outer s H E hr =>
      (fs_one (fs_ret (fe_leLe fe_str (fe_var (i := 0) rfl (by first | exact Or.inl rfl | exact Or.inr (Or.inl rfl) | exact Or.inr (Or.inr rfl))) fe_str)))
theorem ok_is_word (T : Txt K mg a) : FnOk P w K mg base (L2.CX P w) 4 a.f_is_word a.d_is_word ["thing"] (spG ⟨K, P, w⟩ 1 S_is_word) := by
  have G_is_letter := ok_is_letter (P := P) (w := w) (base := base) T
  exact fn_ok (k := 3) (N := ["thing", "sign"]) (ps := ["thing"]) (g := B_is_word) true T.F_is_word sc_is_word fun cdv A outer s H E hr =>
      (fs_cons (fs_if (ft_w (fw_or (ft_not (ft_val (fe_callB false call_isi snd_isi rfl T.b_isinstance PyProof.Rows.boot_isinstance (fa_cons (fe_var (i := 0) rfl (by first | exact Or.inl rfl | exact Or.inr (Or.inl rfl) | exact Or.inr (Or.inr rfl))) (fa_cons (fe_bltn rfl T.b_str PyProof.Rows.boot_str) fa_nil))))) (fw_or1 (ft_not (ft_leLe fe_int (fe_len rfl T.b_len (fa_cons (fe_var (i := 0) rfl (by first | exact Or.inl rfl | exact Or.inr (Or.inl rfl) | exact Or.inr (Or.inr rfl))) fa_nil)) (fe_globI rfl (Classical.choose_spec T.g_LONGEST))))))) (fs_one (fs_ret fe_bl)) fs_nil)
      (fs_one (fs_ret (fe_all rfl T.b_all (fa_cons (fe_comp (own := [(("sign" : Str), 1)]) false rfl sc_is_word.nd (fi_str (fe_var (i := 0) rfl (by first | exact Or.inl rfl | exact Or.inr (Or.inl rfl) | exact Or.inr (Or.inr rfl)))) (show BlkOk ["thing", "sign"] (defScope st_is_word) _ [(("sign" : Str), 1)] from ⟨rfl, by decide +kernel, by decide +kernel, by decide +kernel, by decide +kernel⟩) (fun _ _ _ _ _ => (fgw_name (i := 1) sc_is_word.nd rfl (by first | exact Or.inl rfl | exact Or.inr rfl))) (fun _ _ _ _ _ => fts_nil) (fun _ _ _ _ _ => (fe_call xok_none G_is_letter (hr.mono (by decide)) rfl T.m_is_letter T.k_is_letter T.b_is_letter (fa_cons (fe_var (i := 1) rfl (by first | exact Or.inl rfl | exact Or.inr (Or.inl rfl) | exact Or.inr (Or.inr rfl))) fa_nil)))) fa_nil)))))
theorem ok_check_word (T : Txt K mg a) : FnOk P w K mg base (L2.CX P w) 7 a.f_check_word a.d_check_word ["word"] (spG ⟨K, P, w⟩ 1 S_check_word) := by
  have G_is_word := ok_is_word (P := P) (w := w) (base := base) T
  exact fn_ok (k := 6) (N := ["word"]) (ps := ["word"]) (g := B_check_word) true T.F_check_word sc_check_word fun cdv A outer s H E hr =>
      (fs_one (fs_if (ft_not (ft_val (fe_call (xok_of (takes_of rfl rfl rfl rfl)) G_is_word (hr.mono (by decide)) rfl T.m_is_word T.k_is_word T.b_is_word (fa_cons (fe_var (i := 0) rfl (by first | exact Or.inl rfl | exact Or.inr (Or.inl rfl) | exact Or.inr (Or.inr rfl))) fa_nil)))) (fs_one (fs_raise rfl (takes_of rfl rfl rfl rfl) PySem.F.excBase_ValueError T.xx_NoWord T.m_NoWord T.xk_NoWord (raises_own T.xs_NoWord T.xt_NoWord) rfl)) fs_nil))
theorem ok_Term___init__ (T : Txt K mg a) : FnOk P w K mg base (L2.CX P w) 1 a.f_Term___init__ a.d_Term___init__ ["self", "parts"] (spG ⟨K, P, w⟩ 2 S_Term___init__) := by
  exact fn_ok (k := 0) (N := ["self", "parts"]) (ps := ["self", "parts"]) (g := B_Term___init__) true T.F_Term___init__ sc_Term___init__ fun cdv A outer s H E hr =>
      (fs_one (fs_fld T.cl T.n_parts (fe_var (i := 0) rfl (by first | exact Or.inl rfl | exact Or.inr (Or.inl rfl) | exact Or.inr (Or.inr rfl))) (fe_tuple rfl T.b_tuple (fa_cons (fe_var (i := 1) rfl (by first | exact Or.inl rfl | exact Or.inr (Or.inl rfl) | exact Or.inr (Or.inr rfl))) fa_nil))))
theorem ok_is_level (T : Txt K mg a) : FnOk P w K mg base (L2.CX P w) 1 a.f_is_level a.d_is_level ["part"] (spG ⟨K, P, w⟩ 1 S_is_level) := by
  exact fn_ok (k := 0) (N := ["part"]) (ps := ["part"]) (g := B_is_level) true T.F_is_level sc_is_level fun cdv A outer s H E hr =>
      (fs_one (fs_ret (fe_and (fe_callB false call_isi snd_isi rfl T.b_isinstance PyProof.Rows.boot_isinstance (fa_cons (fe_var (i := 0) rfl (by first | exact Or.inl rfl | exact Or.inr (Or.inl rfl) | exact Or.inr (Or.inr rfl))) (fa_cons (fe_bltn rfl T.b_int PyProof.Rows.boot_int) fa_nil))) (fe_one (fe_ge (fe_var (i := 0) rfl (by first | exact Or.inl rfl | exact Or.inr (Or.inl rfl) | exact Or.inr (Or.inr rfl))) fe_int)))))
theorem ok_raised (T : Txt K mg a) : FnOk P w K mg base (L2.CX P w) 4 a.f_raised a.d_raised ["parts", "by"] (spG ⟨K, P, w⟩ 2 S_raised) := by
  have G_is_level := ok_is_level (P := P) (w := w) (base := base) T
  exact fn_ok (k := 3) (N := ["parts", "by", "part"]) (ps := ["parts", "by"]) (g := B_raised) true T.F_raised sc_raised fun cdv A outer s H E hr =>
      (fs_one (fs_ret (fe_comp (own := [(("part" : Str), 2)]) false rfl sc_raised.nd (fi_tup (fe_var (i := 0) rfl (by first | exact Or.inl rfl | exact Or.inr (Or.inl rfl) | exact Or.inr (Or.inr rfl)))) (show BlkOk ["parts", "by", "part"] (defScope st_raised) _ [(("part" : Str), 2)] from ⟨rfl, by decide +kernel, by decide +kernel, by decide +kernel, by decide +kernel⟩) (fun _ _ _ _ _ => (fgw_name (i := 2) sc_raised.nd rfl (by first | exact Or.inl rfl | exact Or.inr rfl))) (fun _ _ _ _ _ => fts_nil) (fun _ _ _ _ _ => (fe_if (ft_val (fe_call xok_none G_is_level (hr.mono (by decide)) rfl T.m_is_level T.k_is_level T.b_is_level (fa_cons (fe_var (i := 2) rfl (by first | exact Or.inl rfl | exact Or.inr (Or.inl rfl) | exact Or.inr (Or.inr rfl))) fa_nil))) (fe_add false (fe_var (i := 2) rfl (by first | exact Or.inl rfl | exact Or.inr (Or.inl rfl) | exact Or.inr (Or.inr rfl))) (fe_var (i := 1) rfl (by first | exact Or.inl rfl | exact Or.inr (Or.inl rfl) | exact Or.inr (Or.inr rfl)))) (fe_var (i := 2) rfl (by first | exact Or.inl rfl | exact Or.inr (Or.inl rfl) | exact Or.inr (Or.inr rfl))))))))
theorem ok_fun (T : Txt K mg a) : FnOk P w K mg base (L2.CX P w) 10 a.f_fun a.d_fun ["word", "body"] (spG ⟨K, P, w⟩ 2 S_fun) := by
  have G_raised := ok_raised (P := P) (w := w) (base := base) T
  have G_Term___init__ := ok_Term___init__ (P := P) (w := w) (base := base) T
  have G_check_word := ok_check_word (P := P) (w := w) (base := base) T
  exact fn_ok (k := 9) (N := ["word", "body", "bound", "part"]) (ps := ["word", "body"]) (g := B_fun) true T.F_fun sc_fun fun cdv A outer s H E hr =>
      (fs_cons (fs_expr (fe_call (xok_of (takes_of rfl rfl rfl rfl)) G_check_word (hr.mono (by decide)) rfl T.m_check_word T.k_check_word T.b_check_word (fa_cons (fe_var (i := 0) rfl (by first | exact Or.inl rfl | exact Or.inr (Or.inl rfl) | exact Or.inr (Or.inr rfl))) fa_nil)))
      (fs_cons (fs_setLc (i := 2) (own := [(("part" : Str), 3)]) false rfl sc_fun.nd rfl rfl rfl (fi_list (fe_call (xok_of (takes_of rfl rfl rfl rfl)) G_raised (hr.mono (by decide)) rfl T.m_raised T.k_raised T.b_raised (fa_cons (fe_fld T.cl T.n_parts (fe_var (i := 1) rfl (by first | exact Or.inl rfl | exact Or.inr (Or.inl rfl) | exact Or.inr (Or.inr rfl)))) (fa_cons fe_int fa_nil)))) (show BlkOk ["word", "body", "bound", "part"] (defScope st_fun) _ [(("part" : Str), 3)] from ⟨rfl, by decide +kernel, by decide +kernel, by decide +kernel, by decide +kernel⟩) (fun _ _ _ _ _ => (fgw_name (i := 3) sc_fun.nd rfl (by first | exact Or.inl rfl | exact Or.inr rfl))) (fun _ _ _ _ _ => fts_nil) (fun _ _ _ _ _ => (fe_if (ft_eq hr.units (fe_var (i := 3) rfl (by first | exact Or.inl rfl | exact Or.inr (Or.inl rfl) | exact Or.inr (Or.inr rfl))) (fe_var (i := 0) rfl (by first | exact Or.inl rfl | exact Or.inr (Or.inl rfl) | exact Or.inr (Or.inr rfl)))) fe_int (fe_var (i := 3) rfl (by first | exact Or.inl rfl | exact Or.inr (Or.inl rfl) | exact Or.inr (Or.inr rfl))))))
      (fs_one (fs_ret (fe_make (kp := false) T.mkT G_Term___init__ (hr.mono (by decide)) rfl T.m_Term T.b_Term___init__ (fa_cons (fe_lst false (fa_cons (fe_globI rfl (Classical.choose_spec T.g_FUN)) (fa_star (fe_var (i := 2) rfl (by first | exact Or.inl rfl | exact Or.inr (Or.inl rfl) | exact Or.inr (Or.inr rfl))) fa_nil))) fa_nil))))))
theorem ok_name (T : Txt K mg a) : FnOk P w K mg base (L2.CX P w) 10 a.f_name a.d_name ["word"] (spG ⟨K, P, w⟩ 1 S_name) := by
  have G_Term___init__ := ok_Term___init__ (P := P) (w := w) (base := base) T
  have G_check_word := ok_check_word (P := P) (w := w) (base := base) T
  exact fn_ok (k := 9) (N := ["word"]) (ps := ["word"]) (g := B_name) true T.F_name sc_name fun cdv A outer s H E hr =>
      (fs_cons (fs_expr (fe_call (xok_of (takes_of rfl rfl rfl rfl)) G_check_word (hr.mono (by decide)) rfl T.m_check_word T.k_check_word T.b_check_word (fa_cons (fe_var (i := 0) rfl (by first | exact Or.inl rfl | exact Or.inr (Or.inl rfl) | exact Or.inr (Or.inr rfl))) fa_nil)))
      (fs_one (fs_ret (fe_make (kp := false) T.mkT G_Term___init__ (hr.mono (by decide)) rfl T.m_Term T.b_Term___init__ (fa_cons (fe_lst false (fa_cons (fe_var (i := 0) rfl (by first | exact Or.inl rfl | exact Or.inr (Or.inl rfl) | exact Or.inr (Or.inr rfl))) fa_nil)) fa_nil)))))
theorem ok_put (T : Txt K mg a) : FnOk P w K mg base (L2.CX P w) 4 a.f_put a.d_put ["function", "argument"] (spG ⟨K, P, w⟩ 2 S_put) := by
  have G_Term___init__ := ok_Term___init__ (P := P) (w := w) (base := base) T
  exact fn_ok (k := 3) (N := ["function", "argument"]) (ps := ["function", "argument"]) (g := B_put) true T.F_put sc_put fun cdv A outer s H E hr =>
      (fs_one (fs_ret (fe_make (kp := false) T.mkT G_Term___init__ (hr.mono (by decide)) rfl T.m_Term T.b_Term___init__ (fa_cons (fe_lst false (fa_cons (fe_globI rfl (Classical.choose_spec T.g_PUT)) (fa_star (fe_fld T.cl T.n_parts (fe_var (i := 0) rfl (by first | exact Or.inl rfl | exact Or.inr (Or.inl rfl) | exact Or.inr (Or.inr rfl)))) (fa_star (fe_fld T.cl T.n_parts (fe_var (i := 1) rfl (by first | exact Or.inl rfl | exact Or.inr (Or.inl rfl) | exact Or.inr (Or.inr rfl)))) fa_nil)))) fa_nil))))
theorem ok__law_made_n (T : Txt K mg a) (n : Nat) : FnOk P w K mg base (L2.CX P w) (13 + n) a.f__law_made a.d__law_made ["named"] (spG ⟨K, P, w⟩ 1 (S__law_made n)) := by
  have G_name := ok_name (P := P) (w := w) (base := base) T
  have G_fun := ok_fun (P := P) (w := w) (base := base) T
  have G_put := ok_put (P := P) (w := w) (base := base) T
  induction n with
  | zero => exact fn_none (ps := ["named"]) _
  | succ n ih => exact fn_ok (N := ["named"]) (ps := ["named"]) (g := B__law_made (S__law_made n)) true T.F__law_made sc__law_made fun cdv A outer s H E hr =>
      (fs_cons (fs_if (ft_eq hr.units (fe_sub1 (fe_var (i := 0) rfl (by first | exact Or.inl rfl | exact Or.inr (Or.inl rfl) | exact Or.inr (Or.inr rfl))) fe_int) fe_str) (fs_one (fs_ret (fe_call (xok_of (takes_of rfl rfl rfl rfl)) G_name (hr.mono (by show _ ≤ 13 + n; omega)) rfl T.m_name T.k_name T.b_name (fa_cons (fe_sub1 (fe_var (i := 0) rfl (by first | exact Or.inl rfl | exact Or.inr (Or.inl rfl) | exact Or.inr (Or.inr rfl))) fe_int) fa_nil)))) fs_nil)
      (fs_cons (fs_if (ft_eq hr.units (fe_sub1 (fe_var (i := 0) rfl (by first | exact Or.inl rfl | exact Or.inr (Or.inl rfl) | exact Or.inr (Or.inr rfl))) fe_int) fe_str) (fs_one (fs_ret (fe_call (xok_of (takes_of rfl rfl rfl rfl)) G_put (hr.mono (by show _ ≤ 13 + n; omega)) rfl T.m_put T.k_put T.b_put (fa_cons (fe_call (xok_of (takes_of rfl rfl rfl rfl)) ih hr rfl T.m__law_made T.k__law_made T.b__law_made (fa_cons (fe_sub1 (fe_var (i := 0) rfl (by first | exact Or.inl rfl | exact Or.inr (Or.inl rfl) | exact Or.inr (Or.inr rfl))) fe_int) fa_nil)) (fa_cons (fe_call (xok_of (takes_of rfl rfl rfl rfl)) ih hr rfl T.m__law_made T.k__law_made T.b__law_made (fa_cons (fe_sub1 (fe_var (i := 0) rfl (by first | exact Or.inl rfl | exact Or.inr (Or.inl rfl) | exact Or.inr (Or.inr rfl))) fe_int) fa_nil)) fa_nil))))) fs_nil)
      (fs_one (fs_ret (fe_call (xok_of (takes_of rfl rfl rfl rfl)) G_fun (hr.mono (by show _ ≤ 13 + n; omega)) rfl T.m_fun T.k_fun T.b_fun (fa_cons (fe_sub1 (fe_var (i := 0) rfl (by first | exact Or.inl rfl | exact Or.inr (Or.inl rfl) | exact Or.inr (Or.inr rfl))) fe_int) (fa_cons (fe_call (xok_of (takes_of rfl rfl rfl rfl)) ih hr rfl T.m__law_made T.k__law_made T.b__law_made (fa_cons (fe_sub1 (fe_var (i := 0) rfl (by first | exact Or.inl rfl | exact Or.inr (Or.inl rfl) | exact Or.inr (Or.inr rfl))) fe_int) fa_nil)) fa_nil)))))))
theorem ok__law_made (T : Txt K mg a) : FnOk P w K mg base (L2.CX P w) 53 a.f__law_made a.d__law_made ["named"] (spG ⟨K, P, w⟩ 1 (S__law_made 40)) := ok__law_made_n T 40
theorem ok__law_written_n (T : Txt K mg a) (n : Nat) : FnOk P w K mg base (L2.CX P w) (1 + n) a.f__law_written a.d__law_written ["tree", "words", "depth"] (spG ⟨K, P, w⟩ 3 (S__law_written n)) := by
  induction n with
  | zero => exact fn_none (ps := ["tree", "words", "depth"]) _
  | succ n ih => exact fn_ok (N := ["tree", "words", "depth", "this", "that"]) (ps := ["tree", "words", "depth"]) (g := B__law_written (S__law_written n)) true T.F__law_written sc__law_written fun cdv A outer s H E hr =>
      (fs_cons (fs_if (ft_eq hr.units (fe_sub1 (fe_var (i := 0) rfl (by first | exact Or.inl rfl | exact Or.inr (Or.inl rfl) | exact Or.inr (Or.inr rfl))) fe_int) fe_str) (fs_one (fs_ret (fe_sub1 (fe_var (i := 0) rfl (by first | exact Or.inl rfl | exact Or.inr (Or.inl rfl) | exact Or.inr (Or.inr rfl))) fe_int))) fs_nil)
      (fs_cons (fs_if (ft_eq hr.units (fe_sub1 (fe_var (i := 0) rfl (by first | exact Or.inl rfl | exact Or.inr (Or.inl rfl) | exact Or.inr (Or.inr rfl))) fe_int) fe_str) (fs_one (fs_ret (fe_sub1 (fe_var (i := 1) rfl (by first | exact Or.inl rfl | exact Or.inr (Or.inl rfl) | exact Or.inr (Or.inr rfl))) (fe_sub (fe_sub (fe_var (i := 2) rfl (by first | exact Or.inl rfl | exact Or.inr (Or.inl rfl) | exact Or.inr (Or.inr rfl))) fe_int) (fe_sub1 (fe_var (i := 0) rfl (by first | exact Or.inl rfl | exact Or.inr (Or.inl rfl) | exact Or.inr (Or.inr rfl))) fe_int))))) fs_nil)
      (fs_cons (fs_if (ft_eq hr.units (fe_sub1 (fe_var (i := 0) rfl (by first | exact Or.inl rfl | exact Or.inr (Or.inl rfl) | exact Or.inr (Or.inr rfl))) fe_int) fe_str) (fs_one (fs_ret (fe_add false (fe_add false (fe_add false fe_str (fe_sub1 (fe_var (i := 1) rfl (by first | exact Or.inl rfl | exact Or.inr (Or.inl rfl) | exact Or.inr (Or.inr rfl))) (fe_var (i := 2) rfl (by first | exact Or.inl rfl | exact Or.inr (Or.inl rfl) | exact Or.inr (Or.inr rfl))))) fe_str) (fe_call (xok_of (takes_of rfl rfl rfl rfl)) ih hr rfl T.m__law_written T.k__law_written T.b__law_written (fa_cons (fe_sub1 (fe_var (i := 0) rfl (by first | exact Or.inl rfl | exact Or.inr (Or.inl rfl) | exact Or.inr (Or.inr rfl))) fe_int) (fa_cons (fe_var (i := 1) rfl (by first | exact Or.inl rfl | exact Or.inr (Or.inl rfl) | exact Or.inr (Or.inr rfl))) (fa_cons (fe_add false (fe_var (i := 2) rfl (by first | exact Or.inl rfl | exact Or.inr (Or.inl rfl) | exact Or.inr (Or.inr rfl))) fe_int) fa_nil))))))) fs_nil)
      (fs_cons (fs_set (i := 3) sc__law_written.nd rfl (by first | exact Or.inl rfl | exact Or.inr rfl) (fe_call (xok_of (takes_of rfl rfl rfl rfl)) ih hr rfl T.m__law_written T.k__law_written T.b__law_written (fa_cons (fe_sub1 (fe_var (i := 0) rfl (by first | exact Or.inl rfl | exact Or.inr (Or.inl rfl) | exact Or.inr (Or.inr rfl))) fe_int) (fa_cons (fe_var (i := 1) rfl (by first | exact Or.inl rfl | exact Or.inr (Or.inl rfl) | exact Or.inr (Or.inr rfl))) (fa_cons (fe_var (i := 2) rfl (by first | exact Or.inl rfl | exact Or.inr (Or.inl rfl) | exact Or.inr (Or.inr rfl))) fa_nil)))))
      (fs_cons (fs_set (i := 4) sc__law_written.nd rfl (by first | exact Or.inl rfl | exact Or.inr rfl) (fe_call (xok_of (takes_of rfl rfl rfl rfl)) ih hr rfl T.m__law_written T.k__law_written T.b__law_written (fa_cons (fe_sub1 (fe_var (i := 0) rfl (by first | exact Or.inl rfl | exact Or.inr (Or.inl rfl) | exact Or.inr (Or.inr rfl))) fe_int) (fa_cons (fe_var (i := 1) rfl (by first | exact Or.inl rfl | exact Or.inr (Or.inl rfl) | exact Or.inr (Or.inr rfl))) (fa_cons (fe_var (i := 2) rfl (by first | exact Or.inl rfl | exact Or.inr (Or.inl rfl) | exact Or.inr (Or.inr rfl))) fa_nil)))))
      (fs_cons (fs_set (i := 3) sc__law_written.nd rfl (by first | exact Or.inl rfl | exact Or.inr rfl) (fe_sub1 (fe_lst false (fa_cons (fe_var (i := 3) rfl (by first | exact Or.inl rfl | exact Or.inr (Or.inl rfl) | exact Or.inr (Or.inr rfl))) (fa_cons (fe_add false (fe_add false fe_str (fe_var (i := 3) rfl (by first | exact Or.inl rfl | exact Or.inr (Or.inl rfl) | exact Or.inr (Or.inr rfl)))) fe_str) fa_nil))) (fe_int1 rfl T.b_int (fa_cons (fe_eq hr.units (fe_sub1 (fe_sub1 (fe_var (i := 0) rfl (by first | exact Or.inl rfl | exact Or.inr (Or.inl rfl) | exact Or.inr (Or.inr rfl))) fe_int) fe_int) fe_str) fa_nil))))
      (fs_one (fs_ret (fe_add false (fe_add false (fe_var (i := 3) rfl (by first | exact Or.inl rfl | exact Or.inr (Or.inl rfl) | exact Or.inr (Or.inr rfl))) fe_str) (fe_sub1 (fe_lst false (fa_cons (fe_var (i := 4) rfl (by first | exact Or.inl rfl | exact Or.inr (Or.inl rfl) | exact Or.inr (Or.inr rfl))) (fa_cons (fe_add false (fe_add false fe_str (fe_var (i := 4) rfl (by first | exact Or.inl rfl | exact Or.inr (Or.inl rfl) | exact Or.inr (Or.inr rfl)))) fe_str) fa_nil))) (fe_int1 rfl T.b_int (fa_cons (fe_inA (fe_sub1 (fe_sub1 (fe_var (i := 0) rfl (by first | exact Or.inl rfl | exact Or.inr (Or.inl rfl) | exact Or.inr (Or.inr rfl))) fe_int) fe_int) (fe_lst false (fa_cons fe_str (fa_cons fe_str fa_nil)))) fa_nil))))))))))))
theorem ok__law_written (T : Txt K mg a) : FnOk P w K mg base (L2.CX P w) 41 a.f__law_written a.d__law_written ["tree", "words", "depth"] (spG ⟨K, P, w⟩ 3 (S__law_written 40)) := ok__law_written_n T 40
theorem ok__law_words (T : Txt K mg a) : FnOk P w K mg base (L2.CX P w) 1 a.f__law_words a.d__law_words ["free", "many"] (spG ⟨K, P, w⟩ 2 S__law_words) := by
  exact fn_ok (k := 0) (N := ["free", "many", "letters", "some", "this", "that", "said"]) (ps := ["free", "many"]) (g := B__law_words) true T.F__law_words sc__law_words fun cdv A outer s H E hr =>
      (fs_cons (fs_set (i := 2) sc__law_words.nd rfl (by first | exact Or.inl rfl | exact Or.inr rfl) fe_str)
      (fs_cons (fs_set (i := 3) sc__law_words.nd rfl (by first | exact Or.inl rfl | exact Or.inr rfl) (fe_listS rfl rfl T.b_list (fa_cons (fe_var (i := 2) rfl (by first | exact Or.inl rfl | exact Or.inr (Or.inl rfl) | exact Or.inr (Or.inr rfl))) fa_nil)))
      (fs_cons (fs_for PassesOwn.leaving rfl (fi_str (fe_var (i := 2) rfl (by first | exact Or.inl rfl | exact Or.inr (Or.inl rfl) | exact Or.inr (Or.inr rfl)))) (fg_name (i := 4) sc__law_words.nd rfl (by first | exact Or.inl rfl | exact Or.inr rfl)) (fs_one (fs_set (i := 3) sc__law_words.nd rfl (by first | exact Or.inl rfl | exact Or.inr rfl) (fe_add false (fe_var (i := 3) rfl (by first | exact Or.inl rfl | exact Or.inr (Or.inl rfl) | exact Or.inr (Or.inr rfl))) (fe_comp (own := [(("that" : Str), 5)]) false rfl sc__law_words.nd (fi_str (fe_var (i := 2) rfl (by first | exact Or.inl rfl | exact Or.inr (Or.inl rfl) | exact Or.inr (Or.inr rfl)))) (show BlkOk ["free", "many", "letters", "some", "this", "that", "said"] (defScope st__law_words) _ [(("that" : Str), 5)] from ⟨rfl, by decide +kernel, by decide +kernel, by decide +kernel, by decide +kernel⟩) (fun _ _ _ _ _ => (fgw_name (i := 5) sc__law_words.nd rfl (by first | exact Or.inl rfl | exact Or.inr rfl))) (fun _ _ _ _ _ => fts_nil) (fun _ _ _ _ _ => (fe_add false (fe_var (i := 4) rfl (by first | exact Or.inl rfl | exact Or.inr (Or.inl rfl) | exact Or.inr (Or.inr rfl))) (fe_var (i := 5) rfl (by first | exact Or.inl rfl | exact Or.inr (Or.inl rfl) | exact Or.inr (Or.inr rfl))))))))))
      (fs_one (fs_ret (fe_slice false (fe_comp (own := [(("said" : Str), 6)]) false rfl sc__law_words.nd (fi_list (fe_var (i := 3) rfl (by first | exact Or.inl rfl | exact Or.inr (Or.inl rfl) | exact Or.inr (Or.inr rfl)))) (show BlkOk ["free", "many", "letters", "some", "this", "that", "said"] (defScope st__law_words) _ [(("said" : Str), 6)] from ⟨rfl, by decide +kernel, by decide +kernel, by decide +kernel, by decide +kernel⟩) (fun _ _ _ _ _ => (fgw_name (i := 6) sc__law_words.nd rfl (by first | exact Or.inl rfl | exact Or.inr rfl))) (fun _ _ _ _ _ => (fts_one (ft_ninA (fe_var (i := 6) rfl (by first | exact Or.inl rfl | exact Or.inr (Or.inl rfl) | exact Or.inr (Or.inr rfl))) (fe_var (i := 0) rfl (by first | exact Or.inl rfl | exact Or.inr (Or.inl rfl) | exact Or.inr (Or.inr rfl)))))) (fun _ _ _ _ _ => (fe_var (i := 6) rfl (by first | exact Or.inl rfl | exact Or.inr (Or.inl rfl) | exact Or.inr (Or.inr rfl))))) fo_n (fo_s (fe_var (i := 1) rfl (by first | exact Or.inl rfl | exact Or.inr (Or.inl rfl) | exact Or.inr (Or.inr rfl))))))))))
theorem ok__law_free_n (T : Txt K mg a) (n : Nat) : FnOk P w K mg base (L2.CX P w) (1 + n) a.f__law_free a.d__law_free ["tree"] (spG ⟨K, P, w⟩ 1 (S__law_free n)) := by
  induction n with
  | zero => exact fn_none (ps := ["tree"]) _
  | succ n ih => exact fn_ok (N := ["tree"]) (ps := ["tree"]) (g := B__law_free (S__law_free n)) true T.F__law_free sc__law_free fun cdv A outer s H E hr =>
      (fs_cons (fs_if (ft_eq hr.units (fe_sub1 (fe_var (i := 0) rfl (by first | exact Or.inl rfl | exact Or.inr (Or.inl rfl) | exact Or.inr (Or.inr rfl))) fe_int) fe_str) (fs_one (fs_ret (fe_lst false (fa_cons (fe_sub1 (fe_var (i := 0) rfl (by first | exact Or.inl rfl | exact Or.inr (Or.inl rfl) | exact Or.inr (Or.inr rfl))) fe_int) fa_nil)))) fs_nil)
      (fs_cons (fs_if (ft_eq hr.units (fe_sub1 (fe_var (i := 0) rfl (by first | exact Or.inl rfl | exact Or.inr (Or.inl rfl) | exact Or.inr (Or.inr rfl))) fe_int) fe_str) (fs_one (fs_ret (fe_call (xok_of (takes_of rfl rfl rfl rfl)) ih hr rfl T.m__law_free T.k__law_free T.b__law_free (fa_cons (fe_sub1 (fe_var (i := 0) rfl (by first | exact Or.inl rfl | exact Or.inr (Or.inl rfl) | exact Or.inr (Or.inr rfl))) fe_int) fa_nil)))) fs_nil)
      (fs_cons (fs_if (ft_eq hr.units (fe_sub1 (fe_var (i := 0) rfl (by first | exact Or.inl rfl | exact Or.inr (Or.inl rfl) | exact Or.inr (Or.inr rfl))) fe_int) fe_str) (fs_one (fs_ret (fe_add false (fe_call (xok_of (takes_of rfl rfl rfl rfl)) ih hr rfl T.m__law_free T.k__law_free T.b__law_free (fa_cons (fe_sub1 (fe_var (i := 0) rfl (by first | exact Or.inl rfl | exact Or.inr (Or.inl rfl) | exact Or.inr (Or.inr rfl))) fe_int) fa_nil)) (fe_call (xok_of (takes_of rfl rfl rfl rfl)) ih hr rfl T.m__law_free T.k__law_free T.b__law_free (fa_cons (fe_sub1 (fe_var (i := 0) rfl (by first | exact Or.inl rfl | exact Or.inr (Or.inl rfl) | exact Or.inr (Or.inr rfl))) fe_int) fa_nil))))) fs_nil)
      (fs_one (fs_ret (fe_lst false fa_nil))))))
theorem ok__law_free (T : Txt K mg a) : FnOk P w K mg base (L2.CX P w) 41 a.f__law_free a.d__law_free ["tree"] (spG ⟨K, P, w⟩ 1 (S__law_free 40)) := ok__law_free_n T 40
theorem ok__law_text (T : Txt K mg a) : FnOk P w K mg base (L2.CX P w) 44 a.f__law_text a.d__law_text ["tree"] (spG ⟨K, P, w⟩ 1 S__law_text) := by
  have G__law_written := ok__law_written (P := P) (w := w) (base := base) T
  have G__law_free := ok__law_free (P := P) (w := w) (base := base) T
  have G__law_words := ok__law_words (P := P) (w := w) (base := base) T
  exact fn_ok (k := 43) (N := ["tree"]) (ps := ["tree"]) (g := B__law_text) true T.F__law_text sc__law_text fun cdv A outer s H E hr =>
      (fs_one (fs_ret (fe_call (xok_of (takes_of rfl rfl rfl rfl)) G__law_written (hr.mono (by decide)) rfl T.m__law_written T.k__law_written T.b__law_written (fa_cons (fe_var (i := 0) rfl (by first | exact Or.inl rfl | exact Or.inr (Or.inl rfl) | exact Or.inr (Or.inr rfl))) (fa_cons (fe_call (xok_of (takes_of rfl rfl rfl rfl)) G__law_words (hr.mono (by decide)) rfl T.m__law_words T.k__law_words T.b__law_words (fa_cons (fe_call (xok_of (takes_of rfl rfl rfl rfl)) G__law_free (hr.mono (by decide)) rfl T.m__law_free T.k__law_free T.b__law_free (fa_cons (fe_var (i := 0) rfl (by first | exact Or.inl rfl | exact Or.inr (Or.inl rfl) | exact Or.inr (Or.inr rfl))) fa_nil)) (fa_cons fe_int fa_nil))) (fa_cons fe_int fa_nil))))))
theorem ok_depths (T : Txt K mg a) : FnOk P w K mg base (L2.CX P w) 1 a.f_depths a.d_depths ["parts"] (spG ⟨K, P, w⟩ 1 S_depths) := by
  exact fn_ok (k := 0) (N := ["parts", "waiting", "told", "part", "depth"]) (ps := ["parts"]) (g := B_depths) true T.F_depths sc_depths fun cdv A outer s H E hr =>
      (fs_cons (fs_set (i := 1) sc_depths.nd rfl (by first | exact Or.inl rfl | exact Or.inr rfl) (fe_lst true (fa_cons fe_int fa_nil)))
      (fs_cons (fs_set (i := 2) sc_depths.nd rfl (by first | exact Or.inl rfl | exact Or.inr rfl) (fe_lst true fa_nil))
      (fs_cons (fs_for PassesOwn.leaving rfl (fi_tup (fe_var (i := 0) rfl (by first | exact Or.inl rfl | exact Or.inr (Or.inl rfl) | exact Or.inr (Or.inr rfl)))) (fg_name (i := 3) sc_depths.nd rfl (by first | exact Or.inl rfl | exact Or.inr rfl)) (fs_cons (fs_set (i := 4) sc_depths.nd rfl (by first | exact Or.inl rfl | exact Or.inr rfl) (fe_pop (fe_var (i := 1) rfl (by first | exact Or.inl rfl | exact Or.inr (Or.inl rfl) | exact Or.inr (Or.inr rfl)))))
      (fs_cons (fs_expr (fe_append (fe_var (i := 2) rfl (by first | exact Or.inl rfl | exact Or.inr (Or.inl rfl) | exact Or.inr (Or.inr rfl))) (fa_cons (fe_var (i := 4) rfl (by first | exact Or.inl rfl | exact Or.inr (Or.inl rfl) | exact Or.inr (Or.inr rfl))) fa_nil)))
      (fs_one (fs_if (ft_eq hr.units (fe_var (i := 3) rfl (by first | exact Or.inl rfl | exact Or.inr (Or.inl rfl) | exact Or.inr (Or.inr rfl))) (fe_globI rfl (Classical.choose_spec T.g_FUN))) (fs_one (fs_expr (fe_append (fe_var (i := 1) rfl (by first | exact Or.inl rfl | exact Or.inr (Or.inl rfl) | exact Or.inr (Or.inr rfl))) (fa_cons (fe_add false (fe_var (i := 4) rfl (by first | exact Or.inl rfl | exact Or.inr (Or.inl rfl) | exact Or.inr (Or.inr rfl))) fe_int) fa_nil)))) (fs_one (fs_if (ft_eq hr.units (fe_var (i := 3) rfl (by first | exact Or.inl rfl | exact Or.inr (Or.inl rfl) | exact Or.inr (Or.inr rfl))) (fe_globI rfl (Classical.choose_spec T.g_PUT))) (fs_one (fs_expr (fe_extend (fe_var (i := 1) rfl (by first | exact Or.inl rfl | exact Or.inr (Or.inl rfl) | exact Or.inr (Or.inr rfl))) (fa_cons (fe_lst false (fa_cons (fe_var (i := 4) rfl (by first | exact Or.inl rfl | exact Or.inr (Or.inl rfl) | exact Or.inr (Or.inr rfl))) (fa_cons (fe_var (i := 4) rfl (by first | exact Or.inl rfl | exact Or.inr (Or.inl rfl) | exact Or.inr (Or.inr rfl))) fa_nil))) fa_nil)))) fs_nil)))))))
      (fs_one (fs_ret (fe_var (i := 2) rfl (by first | exact Or.inl rfl | exact Or.inr (Or.inl rfl) | exact Or.inr (Or.inr rfl))))))))
theorem ok_all_put_in (T : Txt K mg a) : FnOk P w K mg base (L2.CX P w) 7 a.f_all_put_in a.d_all_put_in ["term", "others"] (spG ⟨K, P, w⟩ 2 S_all_put_in) := by
  have G_raised := ok_raised (P := P) (w := w) (base := base) T
  have G_Term___init__ := ok_Term___init__ (P := P) (w := w) (base := base) T
  have G_depths := ok_depths (P := P) (w := w) (base := base) T
  exact fn_ok (k := 6) (N := ["term", "others", "parts", "part", "depth"]) (ps := ["term", "others"]) (g := B_all_put_in) true T.F_all_put_in sc_all_put_in fun cdv A outer s H E hr =>
      (fs_cons (fs_set (i := 2) sc_all_put_in.nd rfl (by first | exact Or.inl rfl | exact Or.inr rfl) (fe_lst true fa_nil))
      (fs_cons (fs_for PassesOwn.leaving rfl (fi_zip rfl T.b_zip (fa_cons (fe_fld T.cl T.n_parts (fe_var (i := 0) rfl (by first | exact Or.inl rfl | exact Or.inr (Or.inl rfl) | exact Or.inr (Or.inr rfl)))) (fa_cons (fe_call (xok_of (takes_of rfl rfl rfl rfl)) G_depths (hr.mono (by decide)) rfl T.m_depths T.k_depths T.b_depths (fa_cons (fe_fld T.cl T.n_parts (fe_var (i := 0) rfl (by first | exact Or.inl rfl | exact Or.inr (Or.inl rfl) | exact Or.inr (Or.inr rfl)))) fa_nil)) fa_nil))) (fg_tup rfl (fgs_cons (fg_name (i := 3) sc_all_put_in.nd rfl (by first | exact Or.inl rfl | exact Or.inr rfl)) (fgs_cons (fg_name (i := 4) sc_all_put_in.nd rfl (by first | exact Or.inl rfl | exact Or.inr rfl)) fgs_nil))) (fs_one (fs_if (ft_dIn hr.units2 (fe_var (i := 3) rfl (by first | exact Or.inl rfl | exact Or.inr (Or.inl rfl) | exact Or.inr (Or.inr rfl))) (fe_var (i := 1) rfl (by first | exact Or.inl rfl | exact Or.inr (Or.inl rfl) | exact Or.inr (Or.inr rfl)))) (fs_one (fs_expr (fe_extend (fe_var (i := 2) rfl (by first | exact Or.inl rfl | exact Or.inr (Or.inl rfl) | exact Or.inr (Or.inr rfl))) (fa_cons (fe_call (xok_of (takes_of rfl rfl rfl rfl)) G_raised (hr.mono (by decide)) rfl T.m_raised T.k_raised T.b_raised (fa_cons (fe_fld T.cl T.n_parts (fe_dixK hr.units2 (fe_var (i := 1) rfl (by first | exact Or.inl rfl | exact Or.inr (Or.inl rfl) | exact Or.inr (Or.inr rfl))) (fe_var (i := 3) rfl (by first | exact Or.inl rfl | exact Or.inr (Or.inl rfl) | exact Or.inr (Or.inr rfl))))) (fa_cons (fe_var (i := 4) rfl (by first | exact Or.inl rfl | exact Or.inr (Or.inl rfl) | exact Or.inr (Or.inr rfl))) fa_nil))) fa_nil)))) (fs_one (fs_expr (fe_append (fe_var (i := 2) rfl (by first | exact Or.inl rfl | exact Or.inr (Or.inl rfl) | exact Or.inr (Or.inr rfl))) (fa_cons (fe_var (i := 3) rfl (by first | exact Or.inl rfl | exact Or.inr (Or.inl rfl) | exact Or.inr (Or.inr rfl))) fa_nil)))))))
      (fs_one (fs_ret (fe_make (kp := false) T.mkT G_Term___init__ (hr.mono (by decide)) rfl T.m_Term T.b_Term___init__ (fa_cons (fe_var (i := 2) rfl (by first | exact Or.inl rfl | exact Or.inr (Or.inl rfl) | exact Or.inr (Or.inr rfl))) fa_nil))))))
theorem ok_put_in (T : Txt K mg a) : FnOk P w K mg base (L2.CX P w) 10 a.f_put_in a.d_put_in ["term", "word", "other"] (spG ⟨K, P, w⟩ 3 S_put_in) := by
  have G_check_word := ok_check_word (P := P) (w := w) (base := base) T
  have G_all_put_in := ok_all_put_in (P := P) (w := w) (base := base) T
  exact fn_ok (k := 9) (N := ["term", "word", "other"]) (ps := ["term", "word", "other"]) (g := B_put_in) true T.F_put_in sc_put_in fun cdv A outer s H E hr =>
      (fs_cons (fs_expr (fe_call (xok_of (takes_of rfl rfl rfl rfl)) G_check_word (hr.mono (by decide)) rfl T.m_check_word T.k_check_word T.b_check_word (fa_cons (fe_var (i := 1) rfl (by first | exact Or.inl rfl | exact Or.inr (Or.inl rfl) | exact Or.inr (Or.inr rfl))) fa_nil)))
      (fs_one (fs_ret (fe_call (xok_of (takes_of rfl rfl rfl rfl)) G_all_put_in (hr.mono (by decide)) rfl T.m_all_put_in T.k_all_put_in T.b_all_put_in (fa_cons (fe_var (i := 0) rfl (by first | exact Or.inl rfl | exact Or.inr (Or.inl rfl) | exact Or.inr (Or.inr rfl))) (fa_cons (fe_d1 (fe_var (i := 1) rfl (by first | exact Or.inl rfl | exact Or.inr (Or.inl rfl) | exact Or.inr (Or.inr rfl))) (fe_var (i := 2) rfl (by first | exact Or.inl rfl | exact Or.inr (Or.inl rfl) | exact Or.inr (Or.inr rfl)))) fa_nil))))))
theorem ok__law_at (T : Txt K mg a) : FnOk P w K mg base (L2.CX P w) 1 a.f__law_at a.d__law_at ["script", "k"] (spG ⟨K, P, w⟩ 2 S__law_at) := by
  exact fn_ok (k := 0) (N := ["script", "k"]) (ps := ["script", "k"]) (g := B__law_at) true T.F__law_at sc__law_at fun cdv A outer s H E hr =>
      (fs_cons (fs_if (ft_lt (fe_var (i := 1) rfl (by first | exact Or.inl rfl | exact Or.inr (Or.inl rfl) | exact Or.inr (Or.inr rfl))) (fe_len rfl T.b_len (fa_cons (fe_var (i := 0) rfl (by first | exact Or.inl rfl | exact Or.inr (Or.inl rfl) | exact Or.inr (Or.inr rfl))) fa_nil))) (fs_one (fs_ret (fe_sub1 (fe_var (i := 0) rfl (by first | exact Or.inl rfl | exact Or.inr (Or.inl rfl) | exact Or.inr (Or.inr rfl))) (fe_var (i := 1) rfl (by first | exact Or.inl rfl | exact Or.inr (Or.inl rfl) | exact Or.inr (Or.inr rfl)))))) fs_nil)
      (fs_one (fs_ret (fe_add false (fe_mul fe_int (fe_var (i := 1) rfl (by first | exact Or.inl rfl | exact Or.inr (Or.inl rfl) | exact Or.inr (Or.inr rfl)))) fe_int))))
theorem ok__law_used_n (T : Txt K mg a) (n : Nat) : FnOk P w K mg base (L2.CX P w) (1 + n) a.f__law_used a.d__law_used ["tree", "depth"] (spG ⟨K, P, w⟩ 2 (S__law_used n)) := by
  induction n with
  | zero => exact fn_none (ps := ["tree", "depth"]) _
  | succ n ih => exact fn_ok (N := ["tree", "depth"]) (ps := ["tree", "depth"]) (g := B__law_used (S__law_used n)) true T.F__law_used sc__law_used fun cdv A outer s H E hr =>
      (fs_cons (fs_if (ft_eq hr.units (fe_sub1 (fe_var (i := 0) rfl (by first | exact Or.inl rfl | exact Or.inr (Or.inl rfl) | exact Or.inr (Or.inr rfl))) fe_int) fe_str) (fs_one (fs_ret (fe_call (xok_of (takes_of rfl rfl rfl rfl)) ih hr rfl T.m__law_used T.k__law_used T.b__law_used (fa_cons (fe_sub1 (fe_var (i := 0) rfl (by first | exact Or.inl rfl | exact Or.inr (Or.inl rfl) | exact Or.inr (Or.inr rfl))) fe_int) (fa_cons (fe_add false (fe_var (i := 1) rfl (by first | exact Or.inl rfl | exact Or.inr (Or.inl rfl) | exact Or.inr (Or.inr rfl))) fe_int) fa_nil))))) fs_nil)
      (fs_cons (fs_if (ft_eq hr.units (fe_sub1 (fe_var (i := 0) rfl (by first | exact Or.inl rfl | exact Or.inr (Or.inl rfl) | exact Or.inr (Or.inr rfl))) fe_int) fe_str) (fs_one (fs_ret (fe_add false (fe_call (xok_of (takes_of rfl rfl rfl rfl)) ih hr rfl T.m__law_used T.k__law_used T.b__law_used (fa_cons (fe_sub1 (fe_var (i := 0) rfl (by first | exact Or.inl rfl | exact Or.inr (Or.inl rfl) | exact Or.inr (Or.inr rfl))) fe_int) (fa_cons (fe_var (i := 1) rfl (by first | exact Or.inl rfl | exact Or.inr (Or.inl rfl) | exact Or.inr (Or.inr rfl))) fa_nil))) (fe_call (xok_of (takes_of rfl rfl rfl rfl)) ih hr rfl T.m__law_used T.k__law_used T.b__law_used (fa_cons (fe_sub1 (fe_var (i := 0) rfl (by first | exact Or.inl rfl | exact Or.inr (Or.inl rfl) | exact Or.inr (Or.inr rfl))) fe_int) (fa_cons (fe_var (i := 1) rfl (by first | exact Or.inl rfl | exact Or.inr (Or.inl rfl) | exact Or.inr (Or.inr rfl))) fa_nil)))))) fs_nil)
      (fs_cons (fs_if (ft_w (fw_or (ft_eq hr.units (fe_sub1 (fe_var (i := 0) rfl (by first | exact Or.inl rfl | exact Or.inr (Or.inl rfl) | exact Or.inr (Or.inr rfl))) fe_int) fe_str) (fw_or1 (ft_lt (fe_sub1 (fe_var (i := 0) rfl (by first | exact Or.inl rfl | exact Or.inr (Or.inl rfl) | exact Or.inr (Or.inr rfl))) fe_int) (fe_var (i := 1) rfl (by first | exact Or.inl rfl | exact Or.inr (Or.inl rfl) | exact Or.inr (Or.inr rfl))))))) (fs_one (fs_ret (fe_lst false fa_nil))) fs_nil)
      (fs_one (fs_ret (fe_lst false (fa_cons (fe_sub (fe_sub1 (fe_var (i := 0) rfl (by first | exact Or.inl rfl | exact Or.inr (Or.inl rfl) | exact Or.inr (Or.inr rfl))) fe_int) (fe_var (i := 1) rfl (by first | exact Or.inl rfl | exact Or.inr (Or.inl rfl) | exact Or.inr (Or.inr rfl)))) fa_nil)))))))
theorem ok__law_used (T : Txt K mg a) : FnOk P w K mg base (L2.CX P w) 41 a.f__law_used a.d__law_used ["tree", "depth"] (spG ⟨K, P, w⟩ 2 (S__law_used 40)) := ok__law_used_n T 40
theorem ok__law_binder (T : Txt K mg a) : FnOk P w K mg base (L2.CX P w) 44 a.f__law_binder a.d__law_binder ["purse", "inside", "words"] (spG ⟨K, P, w⟩ 3 S__law_binder) := by
  have G__law_used := ok__law_used (P := P) (w := w) (base := base) T
  have G__law_take := ok__law_take (P := P) (w := w) (base := base) T
  have G__law_free := ok__law_free (P := P) (w := w) (base := base) T
  have G__law_words := ok__law_words (P := P) (w := w) (base := base) T
  exact fn_ok (k := 43) (N := ["purse", "inside", "words", "barred", "k", "said"]) (ps := ["purse", "inside", "words"]) (g := B__law_binder) true T.F__law_binder sc__law_binder fun cdv A outer s H E hr =>
      (fs_cons (fs_set (i := 3) sc__law_binder.nd rfl (by first | exact Or.inl rfl | exact Or.inr rfl) (fe_add false (fe_call (xok_of (takes_of rfl rfl rfl rfl)) G__law_free (hr.mono (by decide)) rfl T.m__law_free T.k__law_free T.b__law_free (fa_cons (fe_var (i := 1) rfl (by first | exact Or.inl rfl | exact Or.inr (Or.inl rfl) | exact Or.inr (Or.inr rfl))) fa_nil)) (fe_comp (own := [(("k" : Str), 4)]) false rfl sc__law_binder.nd (fi_list (fe_call (xok_of (takes_of rfl rfl rfl rfl)) G__law_used (hr.mono (by decide)) rfl T.m__law_used T.k__law_used T.b__law_used (fa_cons (fe_var (i := 1) rfl (by first | exact Or.inl rfl | exact Or.inr (Or.inl rfl) | exact Or.inr (Or.inr rfl))) (fa_cons fe_int fa_nil)))) (show BlkOk ["purse", "inside", "words", "barred", "k", "said"] (defScope st__law_binder) _ [(("k" : Str), 4)] from ⟨rfl, by decide +kernel, by decide +kernel, by decide +kernel, by decide +kernel⟩) (fun _ _ _ _ _ => (fgw_name (i := 4) sc__law_binder.nd rfl (by first | exact Or.inl rfl | exact Or.inr rfl))) (fun _ _ _ _ _ => fts_nil) (fun _ _ _ _ _ => (fe_sub1 (fe_var (i := 2) rfl (by first | exact Or.inl rfl | exact Or.inr (Or.inl rfl) | exact Or.inr (Or.inr rfl))) (fe_sub (fe_sub fe_int fe_int) (fe_var (i := 4) rfl (by first | exact Or.inl rfl | exact Or.inr (Or.inl rfl) | exact Or.inr (Or.inr rfl)))))))))
      (fs_cons (fs_set (i := 5) sc__law_binder.nd rfl (by first | exact Or.inl rfl | exact Or.inr rfl) (fe_sub1 (fe_lst false (fa_cons fe_str (fa_cons fe_str (fa_cons fe_str (fa_cons fe_str (fa_cons fe_str (fa_cons fe_str (fa_cons fe_str fa_nil)))))))) (fe_call (xok_of (takes_of rfl rfl rfl rfl)) G__law_take (hr.mono (by decide)) rfl T.m__law_take T.k__law_take T.b__law_take (fa_cons (fe_var (i := 0) rfl (by first | exact Or.inl rfl | exact Or.inr (Or.inl rfl) | exact Or.inr (Or.inr rfl))) (fa_cons fe_int fa_nil)))))
      (fs_cons (fs_if (ft_inA (fe_var (i := 5) rfl (by first | exact Or.inl rfl | exact Or.inr (Or.inl rfl) | exact Or.inr (Or.inr rfl))) (fe_var (i := 3) rfl (by first | exact Or.inl rfl | exact Or.inr (Or.inl rfl) | exact Or.inr (Or.inr rfl)))) (fs_one (fs_set (i := 5) sc__law_binder.nd rfl (by first | exact Or.inl rfl | exact Or.inr rfl) (fe_sub1 (fe_call (xok_of (takes_of rfl rfl rfl rfl)) G__law_words (hr.mono (by decide)) rfl T.m__law_words T.k__law_words T.b__law_words (fa_cons (fe_var (i := 3) rfl (by first | exact Or.inl rfl | exact Or.inr (Or.inl rfl) | exact Or.inr (Or.inr rfl))) (fa_cons fe_int fa_nil))) fe_int))) fs_nil)
      (fs_one (fs_ret (fe_var (i := 5) rfl (by first | exact Or.inl rfl | exact Or.inr (Or.inl rfl) | exact Or.inr (Or.inr rfl))))))))
theorem ok__law_named_n (T : Txt K mg a) (n : Nat) : FnOk P w K mg base (L2.CX P w) (47 + n) a.f__law_named a.d__law_named ["purse", "tree", "words"] (spG ⟨K, P, w⟩ 3 (S__law_named n)) := by
  have G__law_binder := ok__law_binder (P := P) (w := w) (base := base) T
  induction n with
  | zero => exact fn_none (ps := ["purse", "tree", "words"]) _
  | succ n ih => exact fn_ok (N := ["purse", "tree", "words", "this", "said"]) (ps := ["purse", "tree", "words"]) (g := B__law_named (S__law_named n)) true T.F__law_named sc__law_named fun cdv A outer s H E hr =>
      (fs_cons (fs_if (ft_eq hr.units (fe_sub1 (fe_var (i := 1) rfl (by first | exact Or.inl rfl | exact Or.inr (Or.inl rfl) | exact Or.inr (Or.inr rfl))) fe_int) fe_str) (fs_one (fs_ret (fe_var (i := 1) rfl (by first | exact Or.inl rfl | exact Or.inr (Or.inl rfl) | exact Or.inr (Or.inr rfl))))) fs_nil)
      (fs_cons (fs_if (ft_eq hr.units (fe_sub1 (fe_var (i := 1) rfl (by first | exact Or.inl rfl | exact Or.inr (Or.inl rfl) | exact Or.inr (Or.inr rfl))) fe_int) fe_str) (fs_one (fs_ret (fe_lst false (fa_cons fe_str (fa_cons (fe_sub1 (fe_var (i := 2) rfl (by first | exact Or.inl rfl | exact Or.inr (Or.inl rfl) | exact Or.inr (Or.inr rfl))) (fe_sub (fe_sub fe_int fe_int) (fe_sub1 (fe_var (i := 1) rfl (by first | exact Or.inl rfl | exact Or.inr (Or.inl rfl) | exact Or.inr (Or.inr rfl))) fe_int))) fa_nil))))) fs_nil)
      (fs_cons (fs_if (ft_eq hr.units (fe_sub1 (fe_var (i := 1) rfl (by first | exact Or.inl rfl | exact Or.inr (Or.inl rfl) | exact Or.inr (Or.inr rfl))) fe_int) fe_str) (fs_cons (fs_set (i := 3) sc__law_named.nd rfl (by first | exact Or.inl rfl | exact Or.inr rfl) (fe_call (xok_of (takes_of rfl rfl rfl rfl)) ih hr rfl T.m__law_named T.k__law_named T.b__law_named (fa_cons (fe_var (i := 0) rfl (by first | exact Or.inl rfl | exact Or.inr (Or.inl rfl) | exact Or.inr (Or.inr rfl))) (fa_cons (fe_sub1 (fe_var (i := 1) rfl (by first | exact Or.inl rfl | exact Or.inr (Or.inl rfl) | exact Or.inr (Or.inr rfl))) fe_int) (fa_cons (fe_var (i := 2) rfl (by first | exact Or.inl rfl | exact Or.inr (Or.inl rfl) | exact Or.inr (Or.inr rfl))) fa_nil)))))
      (fs_one (fs_ret (fe_lst false (fa_cons fe_str (fa_cons (fe_var (i := 3) rfl (by first | exact Or.inl rfl | exact Or.inr (Or.inl rfl) | exact Or.inr (Or.inr rfl))) (fa_cons (fe_call (xok_of (takes_of rfl rfl rfl rfl)) ih hr rfl T.m__law_named T.k__law_named T.b__law_named (fa_cons (fe_var (i := 0) rfl (by first | exact Or.inl rfl | exact Or.inr (Or.inl rfl) | exact Or.inr (Or.inr rfl))) (fa_cons (fe_sub1 (fe_var (i := 1) rfl (by first | exact Or.inl rfl | exact Or.inr (Or.inl rfl) | exact Or.inr (Or.inr rfl))) fe_int) (fa_cons (fe_var (i := 2) rfl (by first | exact Or.inl rfl | exact Or.inr (Or.inl rfl) | exact Or.inr (Or.inr rfl))) fa_nil)))) fa_nil))))))) fs_nil)
      (fs_cons (fs_set (i := 4) sc__law_named.nd rfl (by first | exact Or.inl rfl | exact Or.inr rfl) (fe_call (xok_of (takes_of rfl rfl rfl rfl)) G__law_binder (hr.mono (by show _ ≤ 47 + n; omega)) rfl T.m__law_binder T.k__law_binder T.b__law_binder (fa_cons (fe_var (i := 0) rfl (by first | exact Or.inl rfl | exact Or.inr (Or.inl rfl) | exact Or.inr (Or.inr rfl))) (fa_cons (fe_sub1 (fe_var (i := 1) rfl (by first | exact Or.inl rfl | exact Or.inr (Or.inl rfl) | exact Or.inr (Or.inr rfl))) fe_int) (fa_cons (fe_var (i := 2) rfl (by first | exact Or.inl rfl | exact Or.inr (Or.inl rfl) | exact Or.inr (Or.inr rfl))) fa_nil)))))
      (fs_one (fs_ret (fe_lst false (fa_cons fe_str (fa_cons (fe_var (i := 4) rfl (by first | exact Or.inl rfl | exact Or.inr (Or.inl rfl) | exact Or.inr (Or.inr rfl))) (fa_cons (fe_call (xok_of (takes_of rfl rfl rfl rfl)) ih hr rfl T.m__law_named T.k__law_named T.b__law_named (fa_cons (fe_var (i := 0) rfl (by first | exact Or.inl rfl | exact Or.inr (Or.inl rfl) | exact Or.inr (Or.inr rfl))) (fa_cons (fe_sub1 (fe_var (i := 1) rfl (by first | exact Or.inl rfl | exact Or.inr (Or.inl rfl) | exact Or.inr (Or.inr rfl))) fe_int) (fa_cons (fe_add false (fe_var (i := 2) rfl (by first | exact Or.inl rfl | exact Or.inr (Or.inl rfl) | exact Or.inr (Or.inr rfl))) (fe_lst false (fa_cons (fe_var (i := 4) rfl (by first | exact Or.inl rfl | exact Or.inr (Or.inl rfl) | exact Or.inr (Or.inr rfl))) fa_nil))) fa_nil)))) fa_nil))))))))))
theorem ok__law_named (T : Txt K mg a) : FnOk P w K mg base (L2.CX P w) 87 a.f__law_named a.d__law_named ["purse", "tree", "words"] (spG ⟨K, P, w⟩ 3 (S__law_named 40)) := ok__law_named_n T 40
theorem ok__law_put_n (T : Txt K mg a) (n : Nat) : FnOk P w K mg base (L2.CX P w) (1 + n) a.f__law_put a.d__law_put ["tree", "said", "that"] (spG ⟨K, P, w⟩ 3 (S__law_put n)) := by
  induction n with
  | zero => exact fn_none (ps := ["tree", "said", "that"]) _
  | succ n ih => exact fn_ok (N := ["tree", "said", "that"]) (ps := ["tree", "said", "that"]) (g := B__law_put (S__law_put n)) true T.F__law_put sc__law_put fun cdv A outer s H E hr =>
      (fs_cons (fs_if (ft_eq hr.units (fe_sub1 (fe_var (i := 0) rfl (by first | exact Or.inl rfl | exact Or.inr (Or.inl rfl) | exact Or.inr (Or.inr rfl))) fe_int) fe_str) (fs_one (fs_ret (fe_sub1 (fe_lst false (fa_cons (fe_var (i := 0) rfl (by first | exact Or.inl rfl | exact Or.inr (Or.inl rfl) | exact Or.inr (Or.inr rfl))) (fa_cons (fe_var (i := 2) rfl (by first | exact Or.inl rfl | exact Or.inr (Or.inl rfl) | exact Or.inr (Or.inr rfl))) fa_nil))) (fe_int1 rfl T.b_int (fa_cons (fe_eq hr.units (fe_sub1 (fe_var (i := 0) rfl (by first | exact Or.inl rfl | exact Or.inr (Or.inl rfl) | exact Or.inr (Or.inr rfl))) fe_int) (fe_var (i := 1) rfl (by first | exact Or.inl rfl | exact Or.inr (Or.inl rfl) | exact Or.inr (Or.inr rfl)))) fa_nil))))) fs_nil)
      (fs_cons (fs_if (ft_eq hr.units (fe_sub1 (fe_var (i := 0) rfl (by first | exact Or.inl rfl | exact Or.inr (Or.inl rfl) | exact Or.inr (Or.inr rfl))) fe_int) fe_str) (fs_one (fs_ret (fe_lst false (fa_cons fe_str (fa_cons (fe_call (xok_of (takes_of rfl rfl rfl rfl)) ih hr rfl T.m__law_put T.k__law_put T.b__law_put (fa_cons (fe_sub1 (fe_var (i := 0) rfl (by first | exact Or.inl rfl | exact Or.inr (Or.inl rfl) | exact Or.inr (Or.inr rfl))) fe_int) (fa_cons (fe_var (i := 1) rfl (by first | exact Or.inl rfl | exact Or.inr (Or.inl rfl) | exact Or.inr (Or.inr rfl))) (fa_cons (fe_var (i := 2) rfl (by first | exact Or.inl rfl | exact Or.inr (Or.inl rfl) | exact Or.inr (Or.inr rfl))) fa_nil)))) fa_nil))))) fs_nil)
      (fs_cons (fs_if (ft_eq hr.units (fe_sub1 (fe_var (i := 0) rfl (by first | exact Or.inl rfl | exact Or.inr (Or.inl rfl) | exact Or.inr (Or.inr rfl))) fe_int) fe_str) (fs_one (fs_ret (fe_lst false (fa_cons fe_str (fa_cons (fe_call (xok_of (takes_of rfl rfl rfl rfl)) ih hr rfl T.m__law_put T.k__law_put T.b__law_put (fa_cons (fe_sub1 (fe_var (i := 0) rfl (by first | exact Or.inl rfl | exact Or.inr (Or.inl rfl) | exact Or.inr (Or.inr rfl))) fe_int) (fa_cons (fe_var (i := 1) rfl (by first | exact Or.inl rfl | exact Or.inr (Or.inl rfl) | exact Or.inr (Or.inr rfl))) (fa_cons (fe_var (i := 2) rfl (by first | exact Or.inl rfl | exact Or.inr (Or.inl rfl) | exact Or.inr (Or.inr rfl))) fa_nil)))) (fa_cons (fe_call (xok_of (takes_of rfl rfl rfl rfl)) ih hr rfl T.m__law_put T.k__law_put T.b__law_put (fa_cons (fe_sub1 (fe_var (i := 0) rfl (by first | exact Or.inl rfl | exact Or.inr (Or.inl rfl) | exact Or.inr (Or.inr rfl))) fe_int) (fa_cons (fe_var (i := 1) rfl (by first | exact Or.inl rfl | exact Or.inr (Or.inl rfl) | exact Or.inr (Or.inr rfl))) (fa_cons (fe_var (i := 2) rfl (by first | exact Or.inl rfl | exact Or.inr (Or.inl rfl) | exact Or.inr (Or.inr rfl))) fa_nil)))) fa_nil)))))) fs_nil)
      (fs_one (fs_ret (fe_var (i := 0) rfl (by first | exact Or.inl rfl | exact Or.inr (Or.inl rfl) | exact Or.inr (Or.inr rfl))))))))
theorem ok__law_put (T : Txt K mg a) : FnOk P w K mg base (L2.CX P w) 41 a.f__law_put a.d__law_put ["tree", "said", "that"] (spG ⟨K, P, w⟩ 3 (S__law_put 40)) := ok__law_put_n T 40
theorem ok_Term___eq__ (T : Txt K mg a) : FnOk P w K mg base (L2.CX P w) 1 a.f_Term___eq__ a.d_Term___eq__ ["self", "other"] (spG ⟨K, P, w⟩ 2 S_Term___eq__) := by
  obtain ⟨fl, own⟩ := T.own
  exact fn_ok (k := 0) (N := ["self", "other"]) (ps := ["self", "other"]) (g := B_Term___eq__) true T.F_Term___eq__ sc_Term___eq__ fun cdv A outer s H E hr =>
      (fs_one (fs_ret (fe_and (fe_isiC own rfl T.b_isinstance (fa_cons (fe_var (i := 1) rfl (by first | exact Or.inl rfl | exact Or.inr (Or.inl rfl) | exact Or.inr (Or.inr rfl))) (fa_cons (fe_globC rfl T.m_Term) fa_nil))) (fe_one (fe_eq hr.units (fe_fld T.cl T.n_parts (fe_var (i := 0) rfl (by first | exact Or.inl rfl | exact Or.inr (Or.inl rfl) | exact Or.inr (Or.inr rfl)))) (fe_fld T.cl T.n_parts (fe_var (i := 1) rfl (by first | exact Or.inl rfl | exact Or.inr (Or.inl rfl) | exact Or.inr (Or.inr rfl)))))))))
theorem ok_nth_word (T : Txt K mg a) : FnOk P w K mg base (L2.CX P w) 1 a.f_nth_word a.d_nth_word ["number"] (spG ⟨K, P, w⟩ 1 S_nth_word) := by
  exact fn_ok (k := 0) (N := ["number", "signs", "left", "place"]) (ps := ["number"]) (g := B_nth_word) true T.F_nth_word sc_nth_word fun cdv A outer s H E hr =>
      (fs_cons (fs_set (i := 1) sc_nth_word.nd rfl (by first | exact Or.inl rfl | exact Or.inr rfl) (fe_lst true fa_nil))
      (fs_cons (fs_set (i := 2) sc_nth_word.nd rfl (by first | exact Or.inl rfl | exact Or.inr rfl) (fe_add false (fe_var (i := 0) rfl (by first | exact Or.inl rfl | exact Or.inr (Or.inl rfl) | exact Or.inr (Or.inr rfl))) fe_int))
      (fs_cons (fs_while PassesOwn.leaving (ft_gt (fe_var (i := 2) rfl (by first | exact Or.inl rfl | exact Or.inr (Or.inl rfl) | exact Or.inr (Or.inr rfl))) fe_int) (fs_cons (fs_asg (fe_divmod rfl T.b_divmod (fa_cons (fe_sub (fe_var (i := 2) rfl (by first | exact Or.inl rfl | exact Or.inr (Or.inl rfl) | exact Or.inr (Or.inr rfl))) fe_int) (fa_cons (fe_len rfl T.b_len (fa_cons (fe_globS rfl (Classical.choose_spec T.g_LETTERS)) fa_nil)) fa_nil))) (fg_tup rfl (fgs_cons (fg_name (i := 2) sc_nth_word.nd rfl (by first | exact Or.inl rfl | exact Or.inr rfl)) (fgs_cons (fg_name (i := 3) sc_nth_word.nd rfl (by first | exact Or.inl rfl | exact Or.inr rfl)) fgs_nil))))
      (fs_one (fs_expr (fe_append (fe_var (i := 1) rfl (by first | exact Or.inl rfl | exact Or.inr (Or.inl rfl) | exact Or.inr (Or.inr rfl))) (fa_cons (fe_sub1 (fe_globS rfl (Classical.choose_spec T.g_LETTERS)) (fe_var (i := 3) rfl (by first | exact Or.inl rfl | exact Or.inr (Or.inl rfl) | exact Or.inr (Or.inr rfl)))) fa_nil))))))
      (fs_one (fs_ret (fe_joinRev rfl fe_str rfl T.b_reversed (fe_var (i := 1) rfl (by first | exact Or.inl rfl | exact Or.inr (Or.inl rfl) | exact Or.inr (Or.inr rfl)))))))))
theorem ok_spare_words (T : Txt K mg a) : FnOk P w K mg base (L2.CX P w) 4 a.f_spare_words a.d_spare_words ["taken", "many"] (spG ⟨K, P, w⟩ 2 S_spare_words) := by
  have G_nth_word := ok_nth_word (P := P) (w := w) (base := base) T
  exact fn_ok (k := 3) (N := ["taken", "many", "held", "spare", "number", "word"]) (ps := ["taken", "many"]) (g := B_spare_words) true T.F_spare_words sc_spare_words fun cdv A outer s H E hr =>
      (fs_cons (fs_set (i := 2) sc_spare_words.nd rfl (by first | exact Or.inl rfl | exact Or.inr rfl) (fe_setof rfl T.b_set (fa_cons (fe_var (i := 0) rfl (by first | exact Or.inl rfl | exact Or.inr (Or.inl rfl) | exact Or.inr (Or.inr rfl))) fa_nil)))
      (fs_cons (fs_set (i := 3) sc_spare_words.nd rfl (by first | exact Or.inl rfl | exact Or.inr rfl) (fe_lst true fa_nil))
      (fs_cons (fs_set (i := 4) sc_spare_words.nd rfl (by first | exact Or.inl rfl | exact Or.inr rfl) fe_int)
      (fs_cons (fs_while PassesOwn.leaving (ft_lt (fe_len rfl T.b_len (fa_cons (fe_var (i := 3) rfl (by first | exact Or.inl rfl | exact Or.inr (Or.inl rfl) | exact Or.inr (Or.inr rfl))) fa_nil)) (fe_var (i := 1) rfl (by first | exact Or.inl rfl | exact Or.inr (Or.inl rfl) | exact Or.inr (Or.inr rfl)))) (fs_cons (fs_set (i := 5) sc_spare_words.nd rfl (by first | exact Or.inl rfl | exact Or.inr rfl) (fe_call (xok_of (takes_of rfl rfl rfl rfl)) G_nth_word (hr.mono (by decide)) rfl T.m_nth_word T.k_nth_word T.b_nth_word (fa_cons (fe_var (i := 4) rfl (by first | exact Or.inl rfl | exact Or.inr (Or.inl rfl) | exact Or.inr (Or.inr rfl))) fa_nil)))
      (fs_cons (fs_if (ft_ninA (fe_var (i := 5) rfl (by first | exact Or.inl rfl | exact Or.inr (Or.inl rfl) | exact Or.inr (Or.inr rfl))) (fe_var (i := 2) rfl (by first | exact Or.inl rfl | exact Or.inr (Or.inl rfl) | exact Or.inr (Or.inr rfl)))) (fs_one (fs_expr (fe_append (fe_var (i := 3) rfl (by first | exact Or.inl rfl | exact Or.inr (Or.inl rfl) | exact Or.inr (Or.inr rfl))) (fa_cons (fe_var (i := 5) rfl (by first | exact Or.inl rfl | exact Or.inr (Or.inl rfl) | exact Or.inr (Or.inr rfl))) fa_nil)))) fs_nil)
      (fs_one (fs_augI (i := 4) sc_spare_words.nd rfl (by first | exact Or.inl rfl | exact Or.inr rfl) fe_int)))))
      (fs_one (fs_ret (fe_var (i := 3) rfl (by first | exact Or.inl rfl | exact Or.inr (Or.inl rfl) | exact Or.inr (Or.inr rfl)))))))))
theorem ok_free_words (T : Txt K mg a) : FnOk P w K mg base (L2.CX P w) 1 a.f_free_words a.d_free_words ["parts"] (spG ⟨K, P, w⟩ 1 S_free_words) := by
  exact fn_ok (k := 0) (N := ["parts", "part"]) (ps := ["parts"]) (g := B_free_words) true T.F_free_words sc_free_words fun cdv A outer s H E hr =>
      (fs_one (fs_ret (fe_sorted rfl T.b_sorted (fa_cons (fe_compS (own := [(("part" : Str), 1)]) rfl sc_free_words.nd (fi_tup (fe_var (i := 0) rfl (by first | exact Or.inl rfl | exact Or.inr (Or.inl rfl) | exact Or.inr (Or.inr rfl)))) (show BlkOk ["parts", "part"] (defScope st_free_words) _ [(("part" : Str), 1)] from ⟨rfl, by decide +kernel, by decide +kernel, by decide +kernel, by decide +kernel⟩) (fun _ _ _ _ _ => (fgw_name (i := 1) sc_free_words.nd rfl (by first | exact Or.inl rfl | exact Or.inr rfl))) (fun _ _ _ _ _ => (fts_one (ft_val (fe_callB false call_isi snd_isi rfl T.b_isinstance PyProof.Rows.boot_isinstance (fa_cons (fe_var (i := 1) rfl (by first | exact Or.inl rfl | exact Or.inr (Or.inl rfl) | exact Or.inr (Or.inr rfl))) (fa_cons (fe_bltn rfl T.b_str PyProof.Rows.boot_str) fa_nil)))))) (fun _ _ _ _ _ => (fe_var (i := 1) rfl (by first | exact Or.inl rfl | exact Or.inr (Or.inl rfl) | exact Or.inr (Or.inr rfl))))) fa_nil))))
theorem ok_told_words (T : Txt K mg a) : FnOk P w K mg base (L2.CX P w) 7 a.f_told_words a.d_told_words ["parts"] (spG ⟨K, P, w⟩ 1 S_told_words) := by
  have G_free_words := ok_free_words (P := P) (w := w) (base := base) T
  have G_spare_words := ok_spare_words (P := P) (w := w) (base := base) T
  have G_depths := ok_depths (P := P) (w := w) (base := base) T
  exact fn_ok (k := 6) (N := ["parts"]) (ps := ["parts"]) (g := B_told_words) true T.F_told_words sc_told_words fun cdv A outer s H E hr =>
      (fs_one (fs_ret (fe_call (xok_of (takes_of rfl rfl rfl rfl)) G_spare_words (hr.mono (by decide)) rfl T.m_spare_words T.k_spare_words T.b_spare_words (fa_cons (fe_call (xok_of (takes_of rfl rfl rfl rfl)) G_free_words (hr.mono (by decide)) rfl T.m_free_words T.k_free_words T.b_free_words (fa_cons (fe_var (i := 0) rfl (by first | exact Or.inl rfl | exact Or.inr (Or.inl rfl) | exact Or.inr (Or.inr rfl))) fa_nil)) (fa_cons (fe_max rfl T.b_max (fa_cons (fe_call (xok_of (takes_of rfl rfl rfl rfl)) G_depths (hr.mono (by decide)) rfl T.m_depths T.k_depths T.b_depths (fa_cons (fe_var (i := 0) rfl (by first | exact Or.inl rfl | exact Or.inr (Or.inl rfl) | exact Or.inr (Or.inr rfl))) fa_nil)) fa_nil)) fa_nil)))))
theorem ok_needs_brackets (T : Txt K mg a) : FnOk P w K mg base (L2.CX P w) 1 a.f_needs_brackets a.d_needs_brackets ["part", "place"] (spG ⟨K, P, w⟩ 2 S_needs_brackets) := by
  exact fn_ok (k := 0) (N := ["part", "place"]) (ps := ["part", "place"]) (g := B_needs_brackets) true T.F_needs_brackets sc_needs_brackets fun cdv A outer s H E hr =>
      (fs_cons (fs_if (ft_eq hr.units (fe_var (i := 0) rfl (by first | exact Or.inl rfl | exact Or.inr (Or.inl rfl) | exact Or.inr (Or.inr rfl))) (fe_globI rfl (Classical.choose_spec T.g_FUN))) (fs_one (fs_ret (fe_ne hr.units (fe_var (i := 1) rfl (by first | exact Or.inl rfl | exact Or.inr (Or.inl rfl) | exact Or.inr (Or.inr rfl))) (fe_globS rfl (Classical.choose_spec T.g_WHOLE))))) fs_nil)
      (fs_one (fs_ret (fe_and (fe_eq hr.units (fe_var (i := 0) rfl (by first | exact Or.inl rfl | exact Or.inr (Or.inl rfl) | exact Or.inr (Or.inr rfl))) (fe_globI rfl (Classical.choose_spec T.g_PUT))) (fe_one (fe_eq hr.units (fe_var (i := 1) rfl (by first | exact Or.inl rfl | exact Or.inr (Or.inl rfl) | exact Or.inr (Or.inr rfl))) (fe_globS rfl (Classical.choose_spec T.g_ARGUMENT))))))))
theorem ok_text_pieces (T : Txt K mg a) : FnOk P w K mg base (L2.CX P w) 10 a.f_text_pieces a.d_text_pieces ["parts"] (spG ⟨K, P, w⟩ 1 S_text_pieces) := by
  have G_needs_brackets := ok_needs_brackets (P := P) (w := w) (base := base) T
  have G_told_words := ok_told_words (P := P) (w := w) (base := base) T
  have G_is_level := ok_is_level (P := P) (w := w) (base := base) T
  exact fn_ok (k := 9) (N := ["parts", "words", "pieces", "waiting", "part", "depth", "place", "behind"]) (ps := ["parts"]) (g := B_text_pieces) true T.F_text_pieces sc_text_pieces fun cdv A outer s H E hr =>
      (fs_cons (fs_set (i := 1) sc_text_pieces.nd rfl (by first | exact Or.inl rfl | exact Or.inr rfl) (fe_call (xok_of (takes_of rfl rfl rfl rfl)) G_told_words (hr.mono (by decide)) rfl T.m_told_words T.k_told_words T.b_told_words (fa_cons (fe_var (i := 0) rfl (by first | exact Or.inl rfl | exact Or.inr (Or.inl rfl) | exact Or.inr (Or.inr rfl))) fa_nil)))
      (fs_cons (fs_set (i := 2) sc_text_pieces.nd rfl (by first | exact Or.inl rfl | exact Or.inr rfl) (fe_lst true fa_nil))
      (fs_cons (fs_set (i := 3) sc_text_pieces.nd rfl (by first | exact Or.inl rfl | exact Or.inr rfl) (fe_lst true (fa_cons (fe_tup (fa_cons fe_int (fa_cons (fe_globS rfl (Classical.choose_spec T.g_WHOLE)) (fa_cons fe_str fa_nil)))) fa_nil)))
      (fs_cons (fs_for PassesOwn.leaving rfl (fi_tup (fe_var (i := 0) rfl (by first | exact Or.inl rfl | exact Or.inr (Or.inl rfl) | exact Or.inr (Or.inr rfl)))) (fg_name (i := 4) sc_text_pieces.nd rfl (by first | exact Or.inl rfl | exact Or.inr rfl)) (fs_cons (fs_asg (fe_pop (fe_var (i := 3) rfl (by first | exact Or.inl rfl | exact Or.inr (Or.inl rfl) | exact Or.inr (Or.inr rfl)))) (fg_tup rfl (fgs_cons (fg_name (i := 5) sc_text_pieces.nd rfl (by first | exact Or.inl rfl | exact Or.inr rfl)) (fgs_cons (fg_name (i := 6) sc_text_pieces.nd rfl (by first | exact Or.inl rfl | exact Or.inr rfl)) (fgs_cons (fg_name (i := 7) sc_text_pieces.nd rfl (by first | exact Or.inl rfl | exact Or.inr rfl)) fgs_nil)))))
      (fs_cons (fs_if (ft_val (fe_call (xok_of (takes_of rfl rfl rfl rfl)) G_needs_brackets (hr.mono (by decide)) rfl T.m_needs_brackets T.k_needs_brackets T.b_needs_brackets (fa_cons (fe_var (i := 4) rfl (by first | exact Or.inl rfl | exact Or.inr (Or.inl rfl) | exact Or.inr (Or.inr rfl))) (fa_cons (fe_var (i := 6) rfl (by first | exact Or.inl rfl | exact Or.inr (Or.inl rfl) | exact Or.inr (Or.inr rfl))) fa_nil)))) (fs_cons (fs_expr (fe_append (fe_var (i := 2) rfl (by first | exact Or.inl rfl | exact Or.inr (Or.inl rfl) | exact Or.inr (Or.inr rfl))) (fa_cons fe_str fa_nil)))
      (fs_one (fs_set (i := 7) sc_text_pieces.nd rfl (by first | exact Or.inl rfl | exact Or.inr rfl) (fe_add false fe_str (fe_var (i := 7) rfl (by first | exact Or.inl rfl | exact Or.inr (Or.inl rfl) | exact Or.inr (Or.inr rfl))))))) fs_nil)
      (fs_one (fs_if (ft_eq hr.units (fe_var (i := 4) rfl (by first | exact Or.inl rfl | exact Or.inr (Or.inl rfl) | exact Or.inr (Or.inr rfl))) (fe_globI rfl (Classical.choose_spec T.g_FUN))) (fs_cons (fs_expr (fe_append (fe_var (i := 2) rfl (by first | exact Or.inl rfl | exact Or.inr (Or.inl rfl) | exact Or.inr (Or.inr rfl))) (fa_cons (fe_joined (fj_cons fe_str (fj_cons (fe_fmt (fe_sub1 (fe_var (i := 1) rfl (by first | exact Or.inl rfl | exact Or.inr (Or.inl rfl) | exact Or.inr (Or.inr rfl))) (fe_var (i := 5) rfl (by first | exact Or.inl rfl | exact Or.inr (Or.inl rfl) | exact Or.inr (Or.inr rfl))))) (fj_cons fe_str fj_nil)))) fa_nil)))
      (fs_one (fs_expr (fe_append (fe_var (i := 3) rfl (by first | exact Or.inl rfl | exact Or.inr (Or.inl rfl) | exact Or.inr (Or.inr rfl))) (fa_cons (fe_tup (fa_cons (fe_add false (fe_var (i := 5) rfl (by first | exact Or.inl rfl | exact Or.inr (Or.inl rfl) | exact Or.inr (Or.inr rfl))) fe_int) (fa_cons (fe_globS rfl (Classical.choose_spec T.g_WHOLE)) (fa_cons (fe_var (i := 7) rfl (by first | exact Or.inl rfl | exact Or.inr (Or.inl rfl) | exact Or.inr (Or.inr rfl))) fa_nil)))) fa_nil))))) (fs_one (fs_if (ft_eq hr.units (fe_var (i := 4) rfl (by first | exact Or.inl rfl | exact Or.inr (Or.inl rfl) | exact Or.inr (Or.inr rfl))) (fe_globI rfl (Classical.choose_spec T.g_PUT))) (fs_cons (fs_expr (fe_append (fe_var (i := 3) rfl (by first | exact Or.inl rfl | exact Or.inr (Or.inl rfl) | exact Or.inr (Or.inr rfl))) (fa_cons (fe_tup (fa_cons (fe_var (i := 5) rfl (by first | exact Or.inl rfl | exact Or.inr (Or.inl rfl) | exact Or.inr (Or.inr rfl))) (fa_cons (fe_globS rfl (Classical.choose_spec T.g_ARGUMENT)) (fa_cons (fe_var (i := 7) rfl (by first | exact Or.inl rfl | exact Or.inr (Or.inl rfl) | exact Or.inr (Or.inr rfl))) fa_nil)))) fa_nil)))
      (fs_one (fs_expr (fe_append (fe_var (i := 3) rfl (by first | exact Or.inl rfl | exact Or.inr (Or.inl rfl) | exact Or.inr (Or.inr rfl))) (fa_cons (fe_tup (fa_cons (fe_var (i := 5) rfl (by first | exact Or.inl rfl | exact Or.inr (Or.inl rfl) | exact Or.inr (Or.inr rfl))) (fa_cons (fe_globS rfl (Classical.choose_spec T.g_FUNCTION)) (fa_cons fe_str fa_nil)))) fa_nil))))) (fs_one (fs_if (ft_val (fe_call (xok_of (takes_of rfl rfl rfl rfl)) G_is_level (hr.mono (by decide)) rfl T.m_is_level T.k_is_level T.b_is_level (fa_cons (fe_var (i := 4) rfl (by first | exact Or.inl rfl | exact Or.inr (Or.inl rfl) | exact Or.inr (Or.inr rfl))) fa_nil))) (fs_one (fs_expr (fe_append (fe_var (i := 2) rfl (by first | exact Or.inl rfl | exact Or.inr (Or.inl rfl) | exact Or.inr (Or.inr rfl))) (fa_cons (fe_add false (fe_sub1 (fe_var (i := 1) rfl (by first | exact Or.inl rfl | exact Or.inr (Or.inl rfl) | exact Or.inr (Or.inr rfl))) (fe_var (i := 4) rfl (by first | exact Or.inl rfl | exact Or.inr (Or.inl rfl) | exact Or.inr (Or.inr rfl)))) (fe_var (i := 7) rfl (by first | exact Or.inl rfl | exact Or.inr (Or.inl rfl) | exact Or.inr (Or.inr rfl)))) fa_nil)))) (fs_one (fs_expr (fe_append (fe_var (i := 2) rfl (by first | exact Or.inl rfl | exact Or.inr (Or.inl rfl) | exact Or.inr (Or.inr rfl))) (fa_cons (fe_add false (fe_var (i := 4) rfl (by first | exact Or.inl rfl | exact Or.inr (Or.inl rfl) | exact Or.inr (Or.inr rfl))) (fe_var (i := 7) rfl (by first | exact Or.inl rfl | exact Or.inr (Or.inl rfl) | exact Or.inr (Or.inr rfl)))) fa_nil)))))))))))))
      (fs_one (fs_ret (fe_var (i := 2) rfl (by first | exact Or.inl rfl | exact Or.inr (Or.inl rfl) | exact Or.inr (Or.inr rfl)))))))))
theorem ok_Term___str__ (T : Txt K mg a) : FnOk P w K mg base (L2.CX P w) 13 a.f_Term___str__ a.d_Term___str__ ["self"] (spG ⟨K, P, w⟩ 1 S_Term___str__) := by
  have G_text_pieces := ok_text_pieces (P := P) (w := w) (base := base) T
  exact fn_ok (k := 12) (N := ["self"]) (ps := ["self"]) (g := B_Term___str__) true T.F_Term___str__ sc_Term___str__ fun cdv A outer s H E hr =>
      (fs_one (fs_ret (fe_join fe_str (fa_cons (fe_call (xok_of (takes_of rfl rfl rfl rfl)) G_text_pieces (hr.mono (by decide)) rfl T.m_text_pieces T.k_text_pieces T.b_text_pieces (fa_cons (fe_fld T.cl T.n_parts (fe_var (i := 0) rfl (by first | exact Or.inl rfl | exact Or.inr (Or.inl rfl) | exact Or.inr (Or.inr rfl)))) fa_nil)) fa_nil))))
theorem ok_law (T : Txt K mg a) : FnOk P w K mg base (L2.CX P w) 90 a.f_law a.d_law ["script"] (spG ⟨K, P, w⟩ 1 S_law) := by
  have G__law_text := ok__law_text (P := P) (w := w) (base := base) T
  have G__law_drawn := ok__law_drawn (P := P) (w := w) (base := base) T
  have G_Term___eq__ := ok_Term___eq__ (P := P) (w := w) (base := base) T
  have G__law_put := ok__law_put (P := P) (w := w) (base := base) T
  have G__law_purse := ok__law_purse (P := P) (w := w) (base := base) T
  have G_name := ok_name (P := P) (w := w) (base := base) T
  have G_Term___str__ := ok_Term___str__ (P := P) (w := w) (base := base) T
  have G__law_free := ok__law_free (P := P) (w := w) (base := base) T
  have G__law_made := ok__law_made (P := P) (w := w) (base := base) T
  have G__law_at := ok__law_at (P := P) (w := w) (base := base) T
  have G__law_named := ok__law_named (P := P) (w := w) (base := base) T
  have G_put := ok_put (P := P) (w := w) (base := base) T
  have G_put_in := ok_put_in (P := P) (w := w) (base := base) T
  have G__law_take := ok__law_take (P := P) (w := w) (base := base) T
  have G_fun := ok_fun (P := P) (w := w) (base := base) T
  obtain ⟨fl, own⟩ := T.own
  exact fn_ok (k := 89) (N := ["script", "cell", "purse", "tree", "that", "piece", "handed", "said", "due", "once", "wide", "caught"]) (ps := ["script"]) (g := B_law) true T.F_law sc_law fun cdv A outer s H E hr =>
      (fs_cons (fs_for PassesOwn.leaving rfl (fi_list (fe_add false (fe_slice false (fe_var (i := 0) rfl (by first | exact Or.inl rfl | exact Or.inr (Or.inl rfl) | exact Or.inr (Or.inr rfl))) fo_n (fo_s fe_int)) (fe_lst false (fa_cons (fe_call (xok_of (takes_of rfl rfl rfl rfl)) G__law_at (hr.mono (by decide)) rfl T.m__law_at T.k__law_at T.b__law_at (fa_cons (fe_var (i := 0) rfl (by first | exact Or.inl rfl | exact Or.inr (Or.inl rfl) | exact Or.inr (Or.inr rfl))) (fa_cons fe_int fa_nil))) fa_nil)))) (fg_name (i := 1) sc_law.nd rfl (by first | exact Or.inl rfl | exact Or.inr rfl)) (fs_cons (fs_set (i := 2) sc_law.nd rfl (by first | exact Or.inl rfl | exact Or.inr rfl) (fe_call (xok_of (takes_of rfl rfl rfl rfl)) G__law_purse (hr.mono (by decide)) rfl T.m__law_purse T.k__law_purse T.b__law_purse (fa_cons (fe_var (i := 1) rfl (by first | exact Or.inl rfl | exact Or.inr (Or.inl rfl) | exact Or.inr (Or.inr rfl))) (fa_cons fe_int fa_nil))))
      (fs_cons (fs_set (i := 3) sc_law.nd rfl (by first | exact Or.inl rfl | exact Or.inr rfl) (fe_call (xok_of (takes_of rfl rfl rfl rfl)) G__law_drawn (hr.mono (by decide)) rfl T.m__law_drawn T.k__law_drawn T.b__law_drawn (fa_cons (fe_var (i := 2) rfl (by first | exact Or.inl rfl | exact Or.inr (Or.inl rfl) | exact Or.inr (Or.inr rfl))) (fa_cons (fe_call (xok_of (takes_of rfl rfl rfl rfl)) G__law_take (hr.mono (by decide)) rfl T.m__law_take T.k__law_take T.b__law_take (fa_cons (fe_var (i := 2) rfl (by first | exact Or.inl rfl | exact Or.inr (Or.inl rfl) | exact Or.inr (Or.inr rfl))) (fa_cons fe_int fa_nil))) (fa_cons fe_int (fa_cons (fe_sub1 (fe_lst false (fa_cons (fe_lst false fa_nil) (fa_cons (fe_lst false (fa_cons fe_str (fa_cons fe_str (fa_cons fe_str fa_nil)))) fa_nil))) (fe_call (xok_of (takes_of rfl rfl rfl rfl)) G__law_take (hr.mono (by decide)) rfl T.m__law_take T.k__law_take T.b__law_take (fa_cons (fe_var (i := 2) rfl (by first | exact Or.inl rfl | exact Or.inr (Or.inl rfl) | exact Or.inr (Or.inr rfl))) (fa_cons fe_int fa_nil)))) fa_nil))))))
      (fs_cons (fs_set (i := 4) sc_law.nd rfl (by first | exact Or.inl rfl | exact Or.inr rfl) (fe_call (xok_of (takes_of rfl rfl rfl rfl)) G__law_drawn (hr.mono (by decide)) rfl T.m__law_drawn T.k__law_drawn T.b__law_drawn (fa_cons (fe_var (i := 2) rfl (by first | exact Or.inl rfl | exact Or.inr (Or.inl rfl) | exact Or.inr (Or.inr rfl))) (fa_cons (fe_call (xok_of (takes_of rfl rfl rfl rfl)) G__law_take (hr.mono (by decide)) rfl T.m__law_take T.k__law_take T.b__law_take (fa_cons (fe_var (i := 2) rfl (by first | exact Or.inl rfl | exact Or.inr (Or.inl rfl) | exact Or.inr (Or.inr rfl))) (fa_cons fe_int fa_nil))) (fa_cons fe_int (fa_cons (fe_lst false (fa_cons fe_str (fa_cons fe_str (fa_cons fe_str (fa_cons fe_str fa_nil))))) fa_nil))))))
      (fs_cons (fs_set (i := 5) sc_law.nd rfl (by first | exact Or.inl rfl | exact Or.inr rfl) (fe_call (xok_of (takes_of rfl rfl rfl rfl)) G__law_made (hr.mono (by decide)) rfl T.m__law_made T.k__law_made T.b__law_made (fa_cons (fe_call (xok_of (takes_of rfl rfl rfl rfl)) G__law_named (hr.mono (by decide)) rfl T.m__law_named T.k__law_named T.b__law_named (fa_cons (fe_var (i := 2) rfl (by first | exact Or.inl rfl | exact Or.inr (Or.inl rfl) | exact Or.inr (Or.inr rfl))) (fa_cons (fe_var (i := 3) rfl (by first | exact Or.inl rfl | exact Or.inr (Or.inl rfl) | exact Or.inr (Or.inr rfl))) (fa_cons (fe_lst false fa_nil) fa_nil)))) fa_nil)))
      (fs_cons (fs_set (i := 6) sc_law.nd rfl (by first | exact Or.inl rfl | exact Or.inr rfl) (fe_call (xok_of (takes_of rfl rfl rfl rfl)) G__law_made (hr.mono (by decide)) rfl T.m__law_made T.k__law_made T.b__law_made (fa_cons (fe_call (xok_of (takes_of rfl rfl rfl rfl)) G__law_named (hr.mono (by decide)) rfl T.m__law_named T.k__law_named T.b__law_named (fa_cons (fe_var (i := 2) rfl (by first | exact Or.inl rfl | exact Or.inr (Or.inl rfl) | exact Or.inr (Or.inr rfl))) (fa_cons (fe_var (i := 4) rfl (by first | exact Or.inl rfl | exact Or.inr (Or.inl rfl) | exact Or.inr (Or.inr rfl))) (fa_cons (fe_lst false fa_nil) fa_nil)))) fa_nil)))
      (fs_cons (fs_set (i := 7) sc_law.nd rfl (by first | exact Or.inl rfl | exact Or.inr rfl) (fe_sub1 (fe_lst false (fa_cons fe_str (fa_cons fe_str (fa_cons fe_str (fa_cons fe_str (fa_cons fe_str fa_nil)))))) (fe_call (xok_of (takes_of rfl rfl rfl rfl)) G__law_take (hr.mono (by decide)) rfl T.m__law_take T.k__law_take T.b__law_take (fa_cons (fe_var (i := 2) rfl (by first | exact Or.inl rfl | exact Or.inr (Or.inl rfl) | exact Or.inr (Or.inr rfl))) (fa_cons fe_int fa_nil)))))
      (fs_cons (fs_set (i := 8) sc_law.nd rfl (by first | exact Or.inl rfl | exact Or.inr rfl) (fe_call (xok_of (takes_of rfl rfl rfl rfl)) G__law_text (hr.mono (by decide)) rfl T.m__law_text T.k__law_text T.b__law_text (fa_cons (fe_call (xok_of (takes_of rfl rfl rfl rfl)) G__law_put (hr.mono (by decide)) rfl T.m__law_put T.k__law_put T.b__law_put (fa_cons (fe_var (i := 3) rfl (by first | exact Or.inl rfl | exact Or.inr (Or.inl rfl) | exact Or.inr (Or.inr rfl))) (fa_cons (fe_var (i := 7) rfl (by first | exact Or.inl rfl | exact Or.inr (Or.inl rfl) | exact Or.inr (Or.inr rfl))) (fa_cons (fe_var (i := 4) rfl (by first | exact Or.inl rfl | exact Or.inr (Or.inl rfl) | exact Or.inr (Or.inr rfl))) fa_nil)))) fa_nil)))
      (fs_cons (fs_if (ft_w (fw_or (ft_ne hr.units (fe_strOwn own G_Term___str__ (hr.mono (by decide)) T.b_Term___str__ rfl T.b_str (fa_cons (fe_call (xok_of (takes_of rfl rfl rfl rfl)) G_put_in (hr.mono (by decide)) rfl T.m_put_in T.k_put_in T.b_put_in (fa_cons (fe_var (i := 5) rfl (by first | exact Or.inl rfl | exact Or.inr (Or.inl rfl) | exact Or.inr (Or.inr rfl))) (fa_cons (fe_var (i := 7) rfl (by first | exact Or.inl rfl | exact Or.inr (Or.inl rfl) | exact Or.inr (Or.inr rfl))) (fa_cons (fe_var (i := 6) rfl (by first | exact Or.inl rfl | exact Or.inr (Or.inl rfl) | exact Or.inr (Or.inr rfl))) fa_nil)))) fa_nil)) (fe_var (i := 8) rfl (by first | exact Or.inl rfl | exact Or.inr (Or.inl rfl) | exact Or.inr (Or.inr rfl)))) (fw_or1 (ft_ne hr.units (fe_strOwn own G_Term___str__ (hr.mono (by decide)) T.b_Term___str__ rfl T.b_str (fa_cons (fe_callK0 (ix := [2, 1, 0]) (fun _ => rfl) (xok_of (takes_of rfl rfl rfl rfl)) G_put_in (hr.mono (by decide)) rfl T.m_put_in T.k_put_in (kbinds_of T.F_put_in (ks := ["other", "word", "term"]) (by decide) (kb_put_in)) (fk_cons (fe_var (i := 6) rfl (by first | exact Or.inl rfl | exact Or.inr (Or.inl rfl) | exact Or.inr (Or.inr rfl))) (fk_cons (fe_var (i := 7) rfl (by first | exact Or.inl rfl | exact Or.inr (Or.inl rfl) | exact Or.inr (Or.inr rfl))) (fk_cons (fe_var (i := 5) rfl (by first | exact Or.inl rfl | exact Or.inr (Or.inl rfl) | exact Or.inr (Or.inr rfl))) fk_nil)))) fa_nil)) (fe_var (i := 8) rfl (by first | exact Or.inl rfl | exact Or.inr (Or.inl rfl) | exact Or.inr (Or.inr rfl))))))) (fs_one (fs_ret fe_bl)) fs_nil)
      (fs_cons (fs_if (ft_w (fw_or (ft_ownNe own G_Term___eq__ (hr.mono (by decide)) T.b_Term___eq__ (fe_call (xok_of (takes_of rfl rfl rfl rfl)) G_put_in (hr.mono (by decide)) rfl T.m_put_in T.k_put_in T.b_put_in (fa_cons (fe_var (i := 5) rfl (by first | exact Or.inl rfl | exact Or.inr (Or.inl rfl) | exact Or.inr (Or.inr rfl))) (fa_cons (fe_var (i := 7) rfl (by first | exact Or.inl rfl | exact Or.inr (Or.inl rfl) | exact Or.inr (Or.inr rfl))) (fa_cons (fe_call (xok_of (takes_of rfl rfl rfl rfl)) G_name (hr.mono (by decide)) rfl T.m_name T.k_name T.b_name (fa_cons (fe_var (i := 7) rfl (by first | exact Or.inl rfl | exact Or.inr (Or.inl rfl) | exact Or.inr (Or.inr rfl))) fa_nil)) fa_nil)))) (fe_var (i := 5) rfl (by first | exact Or.inl rfl | exact Or.inr (Or.inl rfl) | exact Or.inr (Or.inr rfl))) (nomark _)) (fw_or (ft_ne hr.units (fe_strOwn own G_Term___str__ (hr.mono (by decide)) T.b_Term___str__ rfl T.b_str (fa_cons (fe_var (i := 5) rfl (by first | exact Or.inl rfl | exact Or.inr (Or.inl rfl) | exact Or.inr (Or.inr rfl))) fa_nil)) (fe_call (xok_of (takes_of rfl rfl rfl rfl)) G__law_text (hr.mono (by decide)) rfl T.m__law_text T.k__law_text T.b__law_text (fa_cons (fe_var (i := 3) rfl (by first | exact Or.inl rfl | exact Or.inr (Or.inl rfl) | exact Or.inr (Or.inr rfl))) fa_nil))) (fw_or1 (ft_ne hr.units (fe_strOwn own G_Term___str__ (hr.mono (by decide)) T.b_Term___str__ rfl T.b_str (fa_cons (fe_var (i := 6) rfl (by first | exact Or.inl rfl | exact Or.inr (Or.inl rfl) | exact Or.inr (Or.inr rfl))) fa_nil)) (fe_call (xok_of (takes_of rfl rfl rfl rfl)) G__law_text (hr.mono (by decide)) rfl T.m__law_text T.k__law_text T.b__law_text (fa_cons (fe_var (i := 4) rfl (by first | exact Or.inl rfl | exact Or.inr (Or.inl rfl) | exact Or.inr (Or.inr rfl))) fa_nil))))))) (fs_one (fs_ret fe_bl)) fs_nil)
      (fs_cons (fs_set (i := 9) sc_law.nd rfl (by first | exact Or.inl rfl | exact Or.inr rfl) (fe_call (xok_of (takes_of rfl rfl rfl rfl)) G_put_in (hr.mono (by decide)) rfl T.m_put_in T.k_put_in T.b_put_in (fa_cons (fe_var (i := 5) rfl (by first | exact Or.inl rfl | exact Or.inr (Or.inl rfl) | exact Or.inr (Or.inr rfl))) (fa_cons (fe_var (i := 7) rfl (by first | exact Or.inl rfl | exact Or.inr (Or.inl rfl) | exact Or.inr (Or.inr rfl))) (fa_cons (fe_var (i := 6) rfl (by first | exact Or.inl rfl | exact Or.inr (Or.inl rfl) | exact Or.inr (Or.inr rfl))) fa_nil)))))
      (fs_cons (fs_if (ft_w (fw_and (ft_ninA (fe_var (i := 7) rfl (by first | exact Or.inl rfl | exact Or.inr (Or.inl rfl) | exact Or.inr (Or.inr rfl))) (fe_call (xok_of (takes_of rfl rfl rfl rfl)) G__law_free (hr.mono (by decide)) rfl T.m__law_free T.k__law_free T.b__law_free (fa_cons (fe_var (i := 4) rfl (by first | exact Or.inl rfl | exact Or.inr (Or.inl rfl) | exact Or.inr (Or.inr rfl))) fa_nil))) (fw_and1 (ft_ownNe own G_Term___eq__ (hr.mono (by decide)) T.b_Term___eq__ (fe_call (xok_of (takes_of rfl rfl rfl rfl)) G_put_in (hr.mono (by decide)) rfl T.m_put_in T.k_put_in T.b_put_in (fa_cons (fe_var (i := 9) rfl (by first | exact Or.inl rfl | exact Or.inr (Or.inl rfl) | exact Or.inr (Or.inr rfl))) (fa_cons (fe_var (i := 7) rfl (by first | exact Or.inl rfl | exact Or.inr (Or.inl rfl) | exact Or.inr (Or.inr rfl))) (fa_cons (fe_call (xok_of (takes_of rfl rfl rfl rfl)) G_name (hr.mono (by decide)) rfl T.m_name T.k_name T.b_name (fa_cons fe_str fa_nil)) fa_nil)))) (fe_var (i := 9) rfl (by first | exact Or.inl rfl | exact Or.inr (Or.inl rfl) | exact Or.inr (Or.inr rfl))) (nomark _))))) (fs_one (fs_ret fe_bl)) fs_nil)
      (fs_cons (fs_set (i := 10) sc_law.nd rfl (by first | exact Or.inl rfl | exact Or.inr rfl) (fe_call (xok_of (takes_of rfl rfl rfl rfl)) G_put (hr.mono (by decide)) rfl T.m_put T.k_put T.b_put (fa_cons (fe_call (xok_of (takes_of rfl rfl rfl rfl)) G_fun (hr.mono (by decide)) rfl T.m_fun T.k_fun T.b_fun (fa_cons fe_str (fa_cons (fe_var (i := 5) rfl (by first | exact Or.inl rfl | exact Or.inr (Or.inl rfl) | exact Or.inr (Or.inr rfl))) fa_nil))) (fa_cons (fe_var (i := 5) rfl (by first | exact Or.inl rfl | exact Or.inr (Or.inl rfl) | exact Or.inr (Or.inr rfl))) fa_nil))))
      (fs_cons (fs_if (ft_w (fw_and (ft_ne hr.units (fe_var (i := 7) rfl (by first | exact Or.inl rfl | exact Or.inr (Or.inl rfl) | exact Or.inr (Or.inr rfl))) fe_str) (fw_and1 (ft_ninA fe_str (fe_call (xok_of (takes_of rfl rfl rfl rfl)) G__law_free (hr.mono (by decide)) rfl T.m__law_free T.k__law_free T.b__law_free (fa_cons (fe_var (i := 4) rfl (by first | exact Or.inl rfl | exact Or.inr (Or.inl rfl) | exact Or.inr (Or.inr rfl))) fa_nil)))))) (fs_one (fs_if (ft_ownNe own G_Term___eq__ (hr.mono (by decide)) T.b_Term___eq__ (fe_call (xok_of (takes_of rfl rfl rfl rfl)) G_put_in (hr.mono (by decide)) rfl T.m_put_in T.k_put_in T.b_put_in (fa_cons (fe_var (i := 10) rfl (by first | exact Or.inl rfl | exact Or.inr (Or.inl rfl) | exact Or.inr (Or.inr rfl))) (fa_cons (fe_var (i := 7) rfl (by first | exact Or.inl rfl | exact Or.inr (Or.inl rfl) | exact Or.inr (Or.inr rfl))) (fa_cons (fe_var (i := 6) rfl (by first | exact Or.inl rfl | exact Or.inr (Or.inl rfl) | exact Or.inr (Or.inr rfl))) fa_nil)))) (fe_call (xok_of (takes_of rfl rfl rfl rfl)) G_put (hr.mono (by decide)) rfl T.m_put T.k_put T.b_put (fa_cons (fe_call (xok_of (takes_of rfl rfl rfl rfl)) G_fun (hr.mono (by decide)) rfl T.m_fun T.k_fun T.b_fun (fa_cons fe_str (fa_cons (fe_var (i := 9) rfl (by first | exact Or.inl rfl | exact Or.inr (Or.inl rfl) | exact Or.inr (Or.inr rfl))) fa_nil))) (fa_cons (fe_var (i := 9) rfl (by first | exact Or.inl rfl | exact Or.inr (Or.inl rfl) | exact Or.inr (Or.inr rfl))) fa_nil))) (nomark _)) (fs_one (fs_ret fe_bl)) fs_nil)) fs_nil)
      (fs_cons (fs_set (i := 11) sc_law.nd rfl (by first | exact Or.inl rfl | exact Or.inr rfl) (fe_call (xok_of (takes_of rfl rfl rfl rfl)) G_fun (hr.mono (by decide)) rfl T.m_fun T.k_fun T.b_fun (fa_cons fe_str (fa_cons (fe_call (xok_of (takes_of rfl rfl rfl rfl)) G_put (hr.mono (by decide)) rfl T.m_put T.k_put T.b_put (fa_cons (fe_call (xok_of (takes_of rfl rfl rfl rfl)) G_name (hr.mono (by decide)) rfl T.m_name T.k_name T.b_name (fa_cons (fe_var (i := 7) rfl (by first | exact Or.inl rfl | exact Or.inr (Or.inl rfl) | exact Or.inr (Or.inr rfl))) fa_nil)) (fa_cons (fe_call (xok_of (takes_of rfl rfl rfl rfl)) G_name (hr.mono (by decide)) rfl T.m_name T.k_name T.b_name (fa_cons fe_str fa_nil)) fa_nil))) fa_nil))))
      (fs_one (fs_if (ft_w (fw_and (ft_ne hr.units (fe_var (i := 7) rfl (by first | exact Or.inl rfl | exact Or.inr (Or.inl rfl) | exact Or.inr (Or.inr rfl))) fe_str) (fw_and1 (ft_ne hr.units (fe_strOwn own G_Term___str__ (hr.mono (by decide)) T.b_Term___str__ rfl T.b_str (fa_cons (fe_call (xok_of (takes_of rfl rfl rfl rfl)) G_put_in (hr.mono (by decide)) rfl T.m_put_in T.k_put_in T.b_put_in (fa_cons (fe_var (i := 11) rfl (by first | exact Or.inl rfl | exact Or.inr (Or.inl rfl) | exact Or.inr (Or.inr rfl))) (fa_cons (fe_var (i := 7) rfl (by first | exact Or.inl rfl | exact Or.inr (Or.inl rfl) | exact Or.inr (Or.inr rfl))) (fa_cons (fe_var (i := 6) rfl (by first | exact Or.inl rfl | exact Or.inr (Or.inl rfl) | exact Or.inr (Or.inr rfl))) fa_nil)))) fa_nil)) (fe_call (xok_of (takes_of rfl rfl rfl rfl)) G__law_text (hr.mono (by decide)) rfl T.m__law_text T.k__law_text T.b__law_text (fa_cons (fe_lst false (fa_cons fe_str (fa_cons (fe_lst false (fa_cons fe_str (fa_cons (fe_var (i := 4) rfl (by first | exact Or.inl rfl | exact Or.inr (Or.inl rfl) | exact Or.inr (Or.inr rfl))) (fa_cons (fe_lst false (fa_cons fe_str (fa_cons fe_int fa_nil))) fa_nil)))) fa_nil))) fa_nil)))))) (fs_one (fs_ret fe_bl)) fs_nil)))))))))))))))))
      (fs_one (fs_ret fe_bl)))
end
end Pg

set_option Elab.async false
set_option linter.all false
set_option maxRecDepth 100000
set_option maxHeartbeats 2000000
/-! k04, its mathematics, part a: words, terms, parts. -/
namespace Pg
open PySem PySem.Spec PyProof.Rows L2 FW FwR
abbrev tx (l : List Nat) : Str := ⟨l.toArray⟩
theorem tx_len (l : List Nat) : (tx l).length = l.length := by
  show l.toArray.size = l.length
  simp
def lettr (c : Nat) : Prop := 97 ≤ c ∧ c ≤ 122
theorem sizeLine_val : sizeLine = 16777216 := by decide
theorem le_line {n : Nat} (h : n ≤ 16777216) : n ≤ sizeLine := by rw [sizeLine_val]; exact h
theorem dLe_str (a b : Str) : dLe (.str a) (.str b) = some (.val (.bl (!decide (b.cps.toList < a.cps.toList)))) := rfl
theorem dLe_int (a b : Int) : dLe (.int a) (.int b) = some (.val (.bl (decide (a ≤ b)))) := rfl
theorem one_lt {a b : Nat} : ([a] < [b]) ↔ a < b := by
  constructor
  · intro h
    cases h with
    | rel h => exact h
    | cons h => cases h
  · exact fun h => .rel h
theorem is_letter_eq (c : Nat) (S : Store) (h : lettr c) : S_is_letter [.sh (.str (tx [c]))] S = some (.ok (.sh (.bl true)), S) := by
  refine runD_0 ?_
  obtain ⟨h1, h2⟩ := h
  have e1 : dLe (.str "a") (.str (tx [c])) = some (.val (.bl true)) := by
    rw [dLe_str]
    show some (An.val (D.bl (!decide ([c] < [97])))) = _
    rw [decide_eq_false (by rw [one_lt]; omega)]; rfl
  have e2 : dLe (.str (tx [c])) (.str "z") = some (.val (.bl true)) := by
    rw [dLe_str]
    show some (An.val (D.bl (!decide ([122] < [c])))) = _
    rw [decide_eq_false (by rw [one_lt]; omega)]; rfl
  simp [B_is_letter, e1, e2]
/-! ### comprehensions -/
theorem lcL_map {vs : List Nat} {g : GM} {t : Sl → MM Bool} {f : Sl → MM SV} {ss : Sl} {S : Store} (F : D → D) : ∀ (ds acc : List D), (∀ d ∈ ds, ∃ ρ, g (.sh d) (wipeS ss vs) S = some (ρ, S) ∧ t ρ S = some (.ok true, S) ∧ f ρ S = some (.ok (.sh (F d)), S)) → acc.length + ds.length ≤ sizeLine →
    lcL vs g t f ds acc ss S = some (acc ++ ds.map F, S)
  | [], acc, _, _ => by simp [lcL]
  | d :: ds, acc, h, hl => by
    obtain ⟨ρ, h1, h2, h3⟩ := h d List.mem_cons_self
    have ih := lcL_map F ds (acc ++ [F d]) (fun x hx => h x (List.mem_cons_of_mem _ hx)) (by simp at hl ⊢; omega)
    have ha : acc.length < sizeLine := by simp at hl; omega
    unfold lcL
    simp only [h1, h2, h3, if_pos ha, cut_self, ih]
    simp
theorem comp_map {vs : List Nat} {it : Sl → MM (List D)} {g : GM} {t : Sl → MM Bool} {f : Sl → MM SV} {ss : Sl} {S S1 : Store} {ds : List D} (F : D → D) (hi : it ss S = some (.ok ds, S1)) (h : ∀ d ∈ ds, ∃ ρ, g (.sh d) (wipeS ss vs) S1 = some (ρ, S1) ∧ t ρ S1 = some (.ok true, S1) ∧ f ρ S1 = some (.ok (.sh (F d)), S1)) (hl : ds.length ≤ sizeLine) :
    sComp false vs it g t f ss S = some (.ok (.sh (.lst (ds.map F))), S1) := by
  unfold sComp
  simp [hi, lcL_map F ds [] h (by simpa using hl), FW.alloc]
theorem all_true {ds : List D} : dAll (.lst (ds.map fun _ => D.bl true)) = some (.val (.bl true)) := by
  unfold dAll lstD
  have : blsD (ds.map fun _ => D.bl true) = some (ds.map fun _ => true) := by
    rw [show (ds.map fun _ => D.bl true) = (ds.map fun _ => true).map D.bl by simp]
    exact blsD_map _
  simp [this]
theorem is_word_eq (w : List Nat) (S : Store) (h : ∀ c ∈ w, lettr c) (h1 : 1 ≤ w.length) (h8 : w.length ≤ 8) : S_is_word [.sh (.str (tx w))] S = some (.ok (.sh (.bl true)), S) := by
  refine runD_0 ?_
  have hz : w.length ≤ sizeLine := le_line (by omega)
  have e1 : dLen (.str (tx w)) = some (.val (.int w.length)) := by
    show (if (tx w).length ≤ sizeLine then _ else _) = _
    rw [tx_len, if_pos hz]
  have e2 : dLe (.int 1) (.int w.length) = some (.val (.bl true)) := by rw [dLe_int, decide_eq_true (by omega)]
  have e3 : dLe (.int w.length) (.int 8) = some (.val (.bl true)) := by rw [dLe_int, decide_eq_true (by omega)]
  have e0 : dIsi (.str (tx w)) (.ty "str") = some (.val (.bl true)) := by
    unfold dIsi tyN
    have : kitB "str" "str" = some true := by decide
    simp [this]
  have ec : sComp false [1] (itS (sVar 0)) (tgN 1) tYs (sCall 1 (S_is_letter) (aCons (sVar 1) aNil)) [some (.sh (.str (tx w))), none] S = some (.ok (.sh (.lst ((FW.signs (tx w)).map fun _ => D.bl true))), S) := by
    refine comp_map (fun _ => D.bl true) (ds := FW.signs (tx w)) (by simp [itS]) (fun d hd => ?_) (by simp [FW.signs]; exact hz)
    obtain ⟨c, hc, rfl⟩ := List.mem_map.mp hd
    have hc' : c ∈ w := by simpa using hc
    refine ⟨_, rfl, rfl, ?_⟩
    simp [wipeS, is_letter_eq c S (h c hc')]
  simp [B_is_word, on1, on2, e0, e1, e2, e3, ec, all_true]
theorem check_word_eq (w : List Nat) (S : Store) (h : ∀ c ∈ w, lettr c) (h1 : 1 ≤ w.length) (h8 : w.length ≤ 8) : S_check_word [.sh (.str (tx w))] S = some (.ok (.sh .non), S) := by
  refine runD_0n (ρ := [some (.sh (.str (tx w)))]) ?_
  simp [B_check_word, is_word_eq w S h h1 h8]

/-! ### terms -/
def tmD (ds : List D) : D := .ins "Term" ["parts"] [.tup ds]
def seqT : D → Option (List D)
  | .lst ds => some ds
  | .scr ds => some ds
  | _ => none
theorem make_eq {fa : Sl → MM (List SV)} {ss : Sl} {S S1 : Store} {x : SV} {ds : List D} (h : fa ss S = some (.ok [x], S1)) (hx : ∃ d, (∀ T, lookD (S1 ++ T) x = some d) ∧ dTupOf d = some (.tup ds)) : sMake false "Term" 2 (S_Term___init__) fa ss S = some (.ok (.sh (tmD ds)), S1) := by
  obtain ⟨d, hd, hs⟩ := hx
  have hi : S_Term___init__ [.cl S1.length, x] (S1 ++ [.ins "Term" [] []]) = some (.ok (.sh .non), S1 ++ [.ins "Term" ["parts"] [.sh (.tup ds)]]) := by
    refine runD_nx (S1 := S1 ++ [.ins "Term" ["parts"] [.sh (.tup ds)]]) (ρ := [some (.cl S1.length), some x]) ?_ ?_
    · simp [B_Term___init__, gFld, on1, hd, hs, putC, putN]
    · have := cut_set' (S1 ++ [MO.ins "Term" [] []]) S1.length (m := .ins "Term" ["parts"] [.sh (.tup ds)]) (by intro y hy; simp at hy; subst hy; trivial)
      simpa using this
  unfold sMake
  simp only [ev_bind, h, List.length_cons, List.length_nil, if_true, hi]
  simp [frz, allSh, tmD, cut_more]
end Pg

set_option Elab.async false
set_option linter.all false
set_option maxRecDepth 100000
set_option maxHeartbeats 2000000
/-! k04, its mathematics, part b: parts, raised, name, fun, put. -/
namespace Pg
open PySem PySem.Spec PyProof.Rows L2 FW FwR
@[simp] theorem mkL0 {S : Store} : mkL false [] S = some (.ok (.sh (.lst [])), S) := ev_mkLF (xs := []) rfl (le_line (by decide))
@[simp] theorem mkL1 {S : Store} {a : D} : mkL false [.sh a] S = some (.ok (.sh (.lst [a])), S) := ev_mkLF (xs := [.sh a]) rfl (le_line (by decide : 1 ≤ 16777216))
@[simp] theorem mkL2 {S : Store} {a b : D} : mkL false [.sh a, .sh b] S = some (.ok (.sh (.lst [a, b])), S) := ev_mkLF (xs := [.sh a, .sh b]) rfl (le_line (by decide : 2 ≤ 16777216))
@[simp] theorem mkL3 {S : Store} {a b c : D} : mkL false [.sh a, .sh b, .sh c] S = some (.ok (.sh (.lst [a, b, c])), S) := ev_mkLF (xs := [.sh a, .sh b, .sh c]) rfl (le_line (by decide : 3 ≤ 16777216))
@[simp] theorem ev_star {f : Sl → MM SV} {g : Sl → MM (List SV)} {ss : Sl} {S : Store} : aStar f g ss S = MM.bind (f ss) (fun x S => match (lookD S x).bind seqD with
  | some ds => MM.bind (g ss) (fun xs => FW.ret (ds.map SV.sh ++ xs)) S
  | none => none) S := rfl
inductive Pt where
  | w (x : List Nat) | i (k : Int)
deriving DecidableEq
def Pt.d : Pt → D
  | .w x => .str (tx x)
  | .i k => .int k
def Pt.lev : Pt → Bool
  | .w _ => false
  | .i k => decide (0 ≤ k)
def Pt.up (b : Int) : Pt → Pt
  | .w x => .w x
  | .i k => if 0 ≤ k then .i (k + b) else .i k
theorem tx_inj {a b : List Nat} (h : tx a = tx b) : a = b := by
  have : a.toArray = b.toArray := congrArg Str.cps h
  simpa using congrArg Array.toList this
def sok (l : List Nat) : Prop := ∀ c ∈ l, c < 0x110000
theorem sok_ok {l : List Nat} (h : sok l) : PyData.strOk (tx l) = true := by
  unfold PyData.strOk
  rw [Array.all_eq_true_iff_forall_mem]
  intro x hx
  exact decide_eq_true (h x (by simpa using hx))
def Pt.ok : Pt → Prop
  | .w x => sok x
  | .i _ => True
theorem dEq_ss (n : Bool) {a b : Str} (ha : PyData.strOk a = true) (hb : PyData.strOk b = true) : dEq n (.str a) (.str b) = some (.val (.bl (n != (a == b)))) := by
  unfold dEq toPy
  simp [SeqAt.shaped, PyData.canLay0, PyData.depth, PyData.eqv, ha, hb]
theorem dEq_ii (n : Bool) (a b : Int) : dEq n (.int a) (.int b) = some (.val (.bl (n != (a == b)))) := by
  unfold dEq toPy
  simp [SeqAt.shaped, PyData.canLay0, PyData.depth, PyData.eqv]
theorem dEq_si (n : Bool) {a : Str} (b : Int) (ha : PyData.strOk a = true) : dEq n (.str a) (.int b) = some (.val (.bl (n != false))) := by
  unfold dEq toPy
  simp [SeqAt.shaped, PyData.canLay0, PyData.depth, PyData.eqv, ha]
theorem dEq_is (n : Bool) (a : Int) {b : Str} (hb : PyData.strOk b = true) : dEq n (.int a) (.str b) = some (.val (.bl (n != false))) := by
  unfold dEq toPy
  simp [SeqAt.shaped, PyData.canLay0, PyData.depth, PyData.eqv, hb]
theorem str_beq (a b : List Nat) : ((tx a) == (tx b)) = decide (a = b) := by
  by_cases h : a = b
  · subst h; simp
  · rw [decide_eq_false h]
    exact beq_eq_false_iff_ne.mpr fun e => h (tx_inj e)
theorem dEq_tt (n : Bool) {a b : List Nat} (ha : sok a) (hb : sok b) : dEq n (.str (tx a)) (.str (tx b)) = some (.val (.bl (n != decide (a = b)))) := by
  rw [dEq_ss n (sok_ok ha) (sok_ok hb), str_beq]
theorem dEq_pt (n : Bool) {p q : Pt} (hp : p.ok) (hq : q.ok) : dEq n p.d q.d = some (.val (.bl (n != decide (p = q)))) := by
  cases p <;> cases q
  · rename_i a b
    show dEq n (.str (tx a)) (.str (tx b)) = _
    rw [dEq_tt n hp hq]
    simp
  · show dEq n (.str _) (.int _) = _
    rw [dEq_si n _ (sok_ok hp)]
    simp
  · show dEq n (.int _) (.str _) = _
    rw [dEq_is n _ (sok_ok hq)]
    simp
  · rename_i a b
    show dEq n (.int a) (.int b) = _
    rw [dEq_ii]
    simp
    rfl
theorem is_level_eq (p : Pt) (S : Store) : S_is_level [.sh p.d] S = some (.ok (.sh (.bl p.lev)), S) := by
  refine runD_0 ?_
  cases p with
  | w x =>
    have e : dIsi (.str (tx x)) (.ty "int") = some (.val (.bl false)) := by
      unfold dIsi tyN
      have : kitB "str" "int" = some false := by decide
      simp [this]
    simp [B_is_level, on2, Pt.d, e, Pt.lev]
  | i k =>
    have e : dIsi (.int k) (.ty "int") = some (.val (.bl true)) := by
      unfold dIsi tyN
      have : kitB "int" "int" = some true := by decide
      simp [this]
    have e2 : dGe (.int k) (.int 0) = some (.val (.bl (decide (0 ≤ k)))) := rfl
    simp [B_is_level, on2, Pt.d, e, e2, Pt.lev]
theorem is_level_w (x : List Nat) (S : Store) : S_is_level [.sh (.str (tx x))] S = some (.ok (.sh (.bl false)), S) := is_level_eq (.w x) S
theorem is_level_i (k : Int) (S : Store) : S_is_level [.sh (.int k)] S = some (.ok (.sh (.bl (decide (0 ≤ k)))), S) := is_level_eq (.i k) S
theorem dAdd_ii (a b : Int) : dAdd (.int a) (.int b) = some (.val (.int (a + b))) := rfl
theorem raised_eq (ps : List Pt) (b : Int) (S : Store) (hl : ps.length ≤ sizeLine) : S_raised [.sh (.tup (ps.map Pt.d)), .sh (.int b)] S = some (.ok (.sh (.lst ((ps.map (Pt.up b)).map Pt.d))), S) := by
  refine runD_0 ?_
  have ec := comp_map (vs := [2]) (it := itT (sVar 0)) (g := tgN 2) (t := tYs) (f := vIf (sB (sCall 1 (S_is_level) (aCons (sVar 2) aNil))) (b2 false dAdd (sVar 2) (sVar 1)) (sVar 2)) (ss := [some (.sh (.tup (ps.map Pt.d))), some (.sh (.int b)), none]) (S := S) (S1 := S) (ds := ps.map Pt.d)
    (fun d => match d with | .int k => .int (if 0 ≤ k then k + b else k) | d => d) (by simp [itT]) (fun d hd => ?_) (by simpa using hl)
  · have e : ((ps.map (Pt.up b)).map Pt.d) = (ps.map Pt.d).map (fun d => match d with | .int k => .int (if 0 ≤ k then k + b else k) | d => d) := by
      rw [List.map_map, List.map_map]
      apply List.map_congr_left
      intro p _
      cases p with
      | w x => rfl
      | i k =>
        show Pt.d (if 0 ≤ k then .i (k + b) else .i k) = D.int (if 0 ≤ k then k + b else k)
        split <;> rfl
    rw [e]
    simp [B_raised, ec]
  · obtain ⟨p, hp, rfl⟩ := List.mem_map.mp hd
    refine ⟨_, rfl, rfl, ?_⟩
    cases p with
    | w x => simp [wipeS, is_level_w, Pt.d]
    | i k =>
      simp [wipeS, is_level_i, Pt.d]
      by_cases hk : 0 ≤ k
      · simp [hk, dAdd_ii]
      · simp [hk]
/-- texts that are words -/
structure Word (w : List Nat) : Prop where
  l : ∀ c ∈ w, lettr c
  h1 : 1 ≤ w.length
  h8 : w.length ≤ 8
def tm (ps : List Pt) : D := tmD (ps.map Pt.d)
theorem name_eq (w : List Nat) (S : Store) (h : Word w) : S_name [.sh (.str (tx w))] S = some (.ok (.sh (tm [.w w])), S) := by
  refine runD_0 ?_
  have em := make_eq (fa := aCons (sLst false (aCons (sVar 0) aNil)) aNil) (ss := [some (.sh (.str (tx w)))]) (S := S) (S1 := S) (x := .sh (.lst [.str (tx w)])) (ds := [.str (tx w)])
    (by simp) ⟨_, fun T => rfl, rfl⟩
  simp [B_name, check_word_eq w S h.l h.h1 h.h8, em, tm, Pt.d]
theorem Word.ok {w : List Nat} (h : Word w) : sok w := fun c hc => by
  have := h.l c hc
  unfold lettr at this
  omega
theorem put_eq (ps qs : List Pt) (S : Store) (hl : ps.length + qs.length < 16777216) : S_put [.sh (tm ps), .sh (tm qs)] S = some (.ok (.sh (tm (.i (-2) :: ps ++ qs))), S) := by
  refine runD_0 ?_
  have em := make_eq (fa := aCons (sLst false (aCons (sC (.int (-2))) (aStar (sFld "Term" "parts" (sVar 0)) (aStar (sFld "Term" "parts" (sVar 1)) aNil)))) aNil) (ss := [some (.sh (tm ps)), some (.sh (tm qs))]) (S := S) (S1 := S)
    (x := .sh (.lst (.int (-2) :: (ps.map Pt.d ++ qs.map Pt.d)))) (ds := .int (-2) :: (ps.map Pt.d ++ qs.map Pt.d)) (by
      have := ev_mkLF (S := S) (xs := (D.int (-2) :: (ps.map Pt.d ++ qs.map Pt.d)).map SV.sh) (allSh_map _) (le_line (by simp; omega))
      simp only [List.map_cons, List.map_append, List.map_map] at this
      simp [tm, tmD, seqD, this]) ⟨_, fun T => rfl, rfl⟩
  simp [B_put, em]
  simp [tm, Pt.d]
theorem fun_eq (w : List Nat) (ps : List Pt) (S : Store) (h : Word w) (hp : ∀ p ∈ ps, p.ok) (hl : ps.length < 16777216) :
    S_fun [.sh (.str (tx w)), .sh (tm ps)] S = some (.ok (.sh (tm (.i (-1) :: (ps.map (Pt.up 1)).map fun p => if p = .w w then .i 0 else p))), S) := by
  refine runD_0 ?_
  have hz : ps.length ≤ sizeLine := le_line (by omega)
  have er := raised_eq ps 1 S hz
  have ec := comp_map (vs := [3]) (it := itL (sCall 2 (S_raised) (aCons (sFld "Term" "parts" (sVar 1)) (aCons (sC (.int 1)) aNil)))) (g := tgN 3) (t := tYs) (f := vIf (sB (b2 false (dEq false) (sVar 3) (sVar 0))) (sC (.int 0)) (sVar 3)) (ss := [some (.sh (.str (tx w))), some (.sh (tm ps)), none, none]) (S := S) (S1 := S) (ds := (ps.map (Pt.up 1)).map Pt.d)
    (fun d => match d with | .str x => if x == tx w then .int 0 else .str x | d => d) (by
      simp only [List.map_map] at er
      simp [itL, tm, tmD, er, frz]) (fun d hd => ?_) (by simpa using hz)
  · have e2 : (((ps.map (Pt.up 1)).map fun p => if p = .w w then .i 0 else p)).map Pt.d = ((ps.map (Pt.up 1)).map Pt.d).map (fun d => match d with | .str x => if x == tx w then .int 0 else .str x | d => d) := by
      simp only [List.map_map]
      apply List.map_congr_left
      intro p _
      cases p with
      | w x =>
        show Pt.d (if Pt.w x = .w w then .i 0 else .w x) = (if (tx x == tx w) = true then D.int 0 else .str (tx x))
        rw [str_beq]
        by_cases e : x = w
        · subst e; simp [Pt.d]
        · simp [e, Pt.d]
      | i k =>
        show Pt.d (if (if 0 ≤ k then Pt.i (k + 1) else .i k) = .w w then .i 0 else (if 0 ≤ k then Pt.i (k + 1) else .i k)) = (match Pt.d (if 0 ≤ k then Pt.i (k + 1) else .i k) with | .str x => if x == tx w then .int 0 else .str x | d => d)
        split <;> simp [Pt.d]
    have hlen : ((((ps.map (Pt.up 1)).map fun p => if p = Pt.w w then Pt.i 0 else p)).map Pt.d).length = ps.length := by simp
    generalize hq : (((ps.map (Pt.up 1)).map fun p => if p = Pt.w w then Pt.i 0 else p)).map Pt.d = qs at *
    rw [← e2] at ec
    have em := make_eq (fa := aCons (sLst false (aCons (sC (.int (-1))) (aStar (sVar 2) aNil))) aNil) (ss := [some (.sh (.str (tx w))), some (.sh (tm ps)), some (.sh (.lst qs)), none]) (S := S) (S1 := S)
      (x := .sh (.lst (.int (-1) :: qs))) (ds := .int (-1) :: qs) (by
        have := ev_mkLF (S := S) (xs := (D.int (-1) :: qs).map SV.sh) (allSh_map _) (le_line (by simp; omega))
        simp only [List.map_cons] at this
        simp [seqD, this]) ⟨_, fun T => rfl, rfl⟩
    have e3 : tm (.i (-1) :: (ps.map (Pt.up 1)).map fun p => if p = Pt.w w then Pt.i 0 else p) = tmD (.int (-1) :: qs) := by
      unfold tm; rw [List.map_cons, hq]; rfl
    rw [e3]
    simp [B_fun, check_word_eq w S h.l h.h1 h.h8, ec, em]
  · obtain ⟨p, hp', rfl⟩ := List.mem_map.mp hd
    obtain ⟨p0, h0, rfl⟩ := List.mem_map.mp hp'
    refine ⟨_, rfl, rfl, ?_⟩
    have hk := hp p0 h0
    cases p0 with
    | w x =>
      show _ = some (Ou.ok (SV.sh (if (tx x == tx w) = true then D.int 0 else .str (tx x))), S)
      simp [wipeS, Pt.up, Pt.d, dEq_tt false hk h.ok, str_beq]
      by_cases e : x = w
      · simp [e]
      · simp [e]
    | i k =>
      have e : ∃ j, Pt.up 1 (.i k) = .i j := by unfold Pt.up; dsimp only; split <;> exact ⟨_, rfl⟩
      obtain ⟨j, ej⟩ := e
      rw [ej]
      simp [wipeS, Pt.d, dEq_is false j (sok_ok h.ok)]
end Pg

set_option Elab.async false
set_option linter.all false
set_option maxRecDepth 100000
set_option maxHeartbeats 2000000
/-! k04, its mathematics, part c: equality, depths. -/
namespace Pg
open PySem PySem.Spec PyProof.Rows L2 FW FwR
/-! ### equality -/
def Pt.py : Pt → PyData
  | .w x => .str (tx x)
  | .i k => .int k
theorem py_all : ∀ ps : List Pt, toPyL (ps.map Pt.d) = some (ps.map Pt.py)
  | [] => by simp [toPyL]
  | p :: ps => by
    have ih := py_all ps
    cases p <;> simp [toPyL, toPy, Pt.d, Pt.py, ih]
theorem py_lay : ∀ ps : List Pt, (∀ p ∈ ps, p.ok) → PyData.canLayAll0 (ps.map Pt.py) = true ∧ PyData.depthAll (ps.map Pt.py) = 0
  | [], _ => ⟨by simp [PyData.canLayAll0], by simp [PyData.depthAll]⟩
  | p :: ps, h => by
    obtain ⟨h1, h2⟩ := py_lay ps fun q hq => h q (List.mem_cons_of_mem _ hq)
    have hp := h p List.mem_cons_self
    cases p with
    | w x => exact ⟨by simp [PyData.canLayAll0, Pt.py, PyData.canLay0, h1, sok_ok hp], by simp [PyData.depthAll, Pt.py, PyData.depth, h2]⟩
    | i k => exact ⟨by simp [PyData.canLayAll0, Pt.py, PyData.canLay0, h1], by simp [PyData.depthAll, Pt.py, PyData.depth, h2]⟩
theorem py_eqv : ∀ ps qs : List Pt, PyData.eqvAll (ps.map Pt.py) (qs.map Pt.py) = decide (ps = qs)
  | [], [] => by simp [PyData.eqvAll]
  | [], q :: qs => by simp [PyData.eqvAll]
  | p :: ps, [] => by simp [PyData.eqvAll]
  | p :: ps, q :: qs => by
    have ih := py_eqv ps qs
    have e : PyData.eqv p.py q.py = decide (p = q) := by
      cases p <;> cases q <;> simp [PyData.eqv, Pt.py, str_beq] <;> rfl
    simp [PyData.eqvAll, ih, e]
theorem dEq_parts (n : Bool) {ps qs : List Pt} (hp : ∀ p ∈ ps, p.ok) (hq : ∀ p ∈ qs, p.ok) : dEq n (.tup (ps.map Pt.d)) (.tup (qs.map Pt.d)) = some (.val (.bl (n != decide (ps = qs)))) := by
  unfold dEq toPy
  obtain ⟨h1, h2⟩ := py_lay ps hp
  obtain ⟨h3, h4⟩ := py_lay qs hq
  simp [py_all, SeqAt.shaped, PyData.canLay0, PyData.depth, PyData.eqv, h1, h2, h3, h4, py_eqv]
/-! ### cells behind a store -/
@[simp] theorem get0 {S T : Store} {a : MO} : (S ++ a :: T)[S.length]? = some a := by simp
@[simp] theorem get1 {S T : Store} {a b : MO} : (S ++ a :: b :: T)[S.length + 1]? = some b := by
  rw [List.getElem?_append_right (by omega)]; simp
@[simp] theorem set0 {S T : Store} {a m : MO} : (S ++ a :: T).set S.length m = S ++ m :: T := by simp
@[simp] theorem set1 {S T : Store} {a b m : MO} : (S ++ a :: b :: T).set (S.length + 1) m = S ++ a :: m :: T := by
  rw [List.set_append_right _ _ (by omega)]; simp
/-! ### trees: names, bound ones by how many functions lie between -/
inductive Tr where
  | n (x : List Nat) | v (i : Nat) | l (t : Tr) | p (a b : Tr)
deriving DecidableEq
/-- its parts, below d functions -/
def Tr.fl : Tr → Nat → List Pt
  | .n x, _ => [.w x]
  | .v i, d => [.i ((d : Int) - 1 - i)]
  | .l t, d => .i (-1) :: t.fl (d + 1)
  | .p a b, d => .i (-2) :: (a.fl d ++ b.fl d)
def Tr.dps : Tr → Nat → List Nat
  | .n _, d => [d]
  | .v _, d => [d]
  | .l t, d => d :: t.dps (d + 1)
  | .p a b, d => d :: (a.dps d ++ b.dps d)
def Tr.Ok : Tr → Prop
  | .n x => sok x
  | .v _ => True
  | .l t => t.Ok
  | .p a b => a.Ok ∧ b.Ok
/-- no bound name points out of it, below d functions -/
def Tr.Cl : Tr → Nat → Prop
  | .n _, _ => True
  | .v i, d => i < d
  | .l t, d => t.Cl (d + 1)
  | .p a b, d => a.Cl d ∧ b.Cl d
def Tr.size : Tr → Nat
  | .n _ => 1
  | .v _ => 1
  | .l t => t.size + 1
  | .p a b => a.size + b.size + 1
theorem Tr.fl_len : ∀ (t : Tr) (e : Nat), (t.fl e).length = t.size
  | .n _, _ => rfl
  | .v _, _ => rfl
  | .l t, e => by simp [Tr.fl, Tr.size, t.fl_len]
  | .p a b, e => by simp [Tr.fl, Tr.size, a.fl_len, b.fl_len]
theorem Tr.ok_fl : ∀ {t : Tr} {e : Nat}, t.Ok → ∀ y ∈ t.fl e, y.ok
  | .n x, _, h, y, hp => by simp [Tr.fl] at hp; subst hp; exact h
  | .v k, _, _, y, hp => by simp [Tr.fl] at hp; subst hp; trivial
  | .l t, e, h, y, hp => by
    rcases List.mem_cons.mp hp with e | e
    · subst e; trivial
    · exact Tr.ok_fl (t := t) h y e
  | .p a b, e, h, y, hp => by
    rcases List.mem_cons.mp hp with e | e
    · subst e; trivial
    · rcases List.mem_append.mp e with e | e
      · exact Tr.ok_fl (t := a) h.1 y e
      · exact Tr.ok_fl (t := b) h.2 y e
theorem Tr.dps_len : ∀ (t : Tr) (d : Nat), (t.dps d).length = t.size
  | .n _, _ => rfl
  | .v _, _ => rfl
  | .l t, d => by simp [Tr.dps, Tr.size, t.dps_len]
  | .p a b, d => by simp [Tr.dps, Tr.size, a.dps_len, b.dps_len]
def nls (l : List Nat) : List SV := l.map fun (n : Nat) => .sh (.int (n : Int))
theorem nls_len (l : List Nat) : (nls l).length = l.length := by simp [nls]
theorem nls_app (l m : List Nat) : nls (l ++ m) = nls l ++ nls m := by simp [nls]
theorem pop_nls {l : List Nat} {d : Nat} {S : Store} : uPop (nls (l ++ [d])) [] S = some (.sh (.int d), nls l) := by
  simp [uPop, nls]
theorem app_nls {l : List Nat} {d : Nat} {S : Store} (h : l.length < sizeLine) : uAppend (nls l) [.sh (.int d)] S = some (.sh .non, nls (l ++ [d])) := by
  simp [uAppend, nls, h]
theorem app_nls1 {l : List Nat} {d : Nat} {S : Store} (h : l.length < sizeLine) : uAppend (nls l) [.sh (.int ((d : Int) + 1))] S = some (.sh .non, nls (l ++ [d + 1])) := by
  simp [uAppend, nls, h]
theorem ext_nls {l : List Nat} {d e : Nat} {S : Store} (h : l.length + 2 ≤ sizeLine) : uExtend (nls l) [.sh (.lst [.int d, .int e])] S = some (.sh .non, nls (l ++ [d, e])) := by
  simp [uExtend, nls, h]
def dLoop : SM := (gSeq (gAs (sMut uPop (sVar 1) aNil) (tgN 4))
    (gSeq (gEx (sMut uAppend (sVar 2) (aCons (sVar 4) aNil)))
    (gIf (sB (b2 false (dEq false) (sVar 3) (sC (.int (-1))))) (gEx (sMut uAppend (sVar 1) (aCons (b2 false dAdd (sVar 4) (sC (.int 1))) aNil))) (gIf (sB (b2 false (dEq false) (sVar 3) (sC (.int (-2))))) (gEx (sMut uExtend (sVar 1) (aCons (sLst false (aCons (sVar 4) (aCons (sVar 4) aNil))) aNil))) gNx))))
theorem dstep (S : Store) (q : SV) (x : Pt) (hx : x.ok) (dv : Option SV) (st told : List Nat) (d : Nat) (h1 : st.length + 2 < 16777216) (h2 : told.length + 1 < 16777216) :
    dLoop [some q, some (.cl S.length), some (.cl (S.length + 1)), some (.sh x.d), dv] (S ++ [.lst (nls (st ++ [d])), .lst (nls told)]) =
      some (.nx [some q, some (.cl S.length), some (.cl (S.length + 1)), some (.sh x.d), some (.sh (.int d))], S ++ [.lst (nls (st ++ (if x = .i (-1) then [d + 1] else if x = .i (-2) then [d, d] else []))), .lst (nls (told ++ [d]))]) := by
  have e1 := dEq_pt false (p := x) (q := .i (-1)) hx trivial
  have e2 := dEq_pt false (p := x) (q := .i (-2)) hx trivial
  have z1 : told.length < sizeLine := by rw [sizeLine_val]; omega
  have z2 : st.length < sizeLine := by rw [sizeLine_val]; omega
  have z3 : st.length + 2 ≤ sizeLine := by rw [sizeLine_val]; omega
  simp only [show (Pt.i (-1)).d = D.int (-1) from rfl, show (Pt.i (-2)).d = D.int (-2) from rfl] at e1 e2
  by_cases c1 : x = .i (-1)
  · subst c1; simp [dLoop, sMut, cellL, pop_nls, app_nls, app_nls1, e1, z1, z2, dAdd_ii]
  · by_cases c2 : x = .i (-2)
    · subst c2; simp [dLoop, sMut, cellL, pop_nls, app_nls, ext_nls, e1, e2, z1, z2, z3]
    · simp [dLoop, sMut, cellL, pop_nls, app_nls, e1, e2, c1, c2, z1, z2]
theorem forL_nx {g : GM} {b : SM} {d : D} {r : List D} {ss ρ ρ' : Sl} {S S1 S2 : Store} (h1 : g (.sh d) ss S = some (ρ, S1)) (h2 : b ρ S1 = some (.nx ρ', S2)) : forL g b (d :: r) ss S = forL g b r ρ' S2 := by
  show (match g (.sh d) ss S with | none => none | some (ρ, S1) => _) = _
  rw [h1]
  simp only [h2]
/-- a bound name is told by a level, no mark -/
theorem lev_ne {d i : Nat} (h : i < d) : (Pt.i ((d : Int) - 1 - i) ≠ .i (-1)) ∧ (Pt.i ((d : Int) - 1 - i) ≠ .i (-2)) := by
  constructor <;> intro e <;> injection e with e <;> omega
theorem dloop (S : Store) (q : SV) : ∀ (t : Tr) (e d : Nat) (st told : List Nat) (rest : List D) (pv dv : Option SV), t.Ok → t.Cl e → st.length + t.size + 2 < 16777216 → told.length + t.size < 16777216 →
    ∃ pv' dv', forL (tgN 3) (dLoop) ((t.fl e).map Pt.d ++ rest) [some q, some (.cl S.length), some (.cl (S.length + 1)), pv, dv] (S ++ [.lst (nls (st ++ [d])), .lst (nls told)]) =
      forL (tgN 3) (dLoop) rest [some q, some (.cl S.length), some (.cl (S.length + 1)), pv', dv'] (S ++ [.lst (nls st), .lst (nls (told ++ t.dps d))])
  | .n x, e, d, st, told, rest, pv, dv, ho, hc, h1, h2 => by
    have s := dstep S q (.w x) ho dv st told d (by simp [Tr.size] at h1; omega) (by simp [Tr.size] at h2; omega)
    simp at s
    exact ⟨_, _, forL_nx rfl s⟩
  | .v i, e, d, st, told, rest, pv, dv, ho, hc, h1, h2 => by
    have s := dstep S q (.i ((e : Int) - 1 - i)) trivial dv st told d (by simp [Tr.size] at h1; omega) (by simp [Tr.size] at h2; omega)
    obtain ⟨n1, n2⟩ := lev_ne (show i < e from hc)
    rw [if_neg n1, if_neg n2, List.append_nil] at s
    exact ⟨_, _, forL_nx rfl s⟩
  | .l t, e, d, st, told, rest, pv, dv, ho, hc, h1, h2 => by
    have s := dstep S q (.i (-1)) trivial dv st told d (by simp [Tr.size] at h1; omega) (by simp [Tr.size] at h2; omega)
    rw [if_pos rfl] at s
    obtain ⟨pv', dv', ih⟩ := dloop S q t (e + 1) (d + 1) st (told ++ [d]) rest (some (.sh (Pt.i (-1)).d)) (some (.sh (.int d))) ho hc (by simp [Tr.size] at h1; omega) (by simp [Tr.size] at h2 ⊢; omega)
    refine ⟨pv', dv', ?_⟩
    have st1 := forL_nx (r := (t.fl (e + 1)).map Pt.d ++ rest) (g := tgN 3) (ss := [some q, some (.cl S.length), some (.cl (S.length + 1)), pv, dv]) (d := (Pt.i (-1)).d) rfl s
    refine st1.trans (ih.trans ?_)
    simp [Tr.dps]
  | .p a b, e, d, st, told, rest, pv, dv, ho, hc, h1, h2 => by
    have s := dstep S q (.i (-2)) trivial dv st told d (by simp [Tr.size] at h1; omega) (by simp [Tr.size] at h2; omega)
    rw [if_neg (by decide), if_pos rfl] at s
    obtain ⟨pv1, dv1, i1⟩ := dloop S q a e d (st ++ [d]) (told ++ [d]) ((b.fl e).map Pt.d ++ rest) (some (.sh (Pt.i (-2)).d)) (some (.sh (.int d))) ho.1 hc.1 (by simp [Tr.size] at h1 ⊢; omega) (by simp [Tr.size] at h2 ⊢; omega)
    obtain ⟨pv2, dv2, i2⟩ := dloop S q b e d st ((told ++ [d]) ++ a.dps d) rest pv1 dv1 ho.2 hc.2 (by simp [Tr.size] at h1 ⊢; omega) (by simp [Tr.size, Tr.dps_len] at h2 ⊢; omega)
    refine ⟨pv2, dv2, ?_⟩
    have st1 := forL_nx (r := ((a.fl e).map Pt.d ++ ((b.fl e).map Pt.d ++ rest))) (g := tgN 3) (ss := [some q, some (.cl S.length), some (.cl (S.length + 1)), pv, dv]) (d := (Pt.i (-2)).d) rfl s
    have e1 : ((Tr.p a b).fl e).map Pt.d ++ rest = (Pt.i (-2)).d :: ((a.fl e).map Pt.d ++ ((b.fl e).map Pt.d ++ rest)) := by simp [Tr.fl]
    rw [e1]
    refine st1.trans ?_
    have e2 : st ++ [d, d] = (st ++ [d]) ++ [d] := by simp
    rw [e2]
    refine i1.trans (i2.trans ?_)
    simp [Tr.dps]
theorem depths_eq (t : Tr) (e : Nat) (S : Store) (ho : t.Ok) (hc : t.Cl e) (hs : t.size < 16000000) : S_depths [.sh (.tup ((t.fl e).map Pt.d))] S = some (.ok (.sh (.lst ((t.dps 0).map fun (n : Nat) => .int n))), S) := by
  obtain ⟨pv, dv, h⟩ := dloop S (.sh (.tup ((t.fl e).map Pt.d))) t e 0 [] [] [] none none ho hc (by simp; omega) (by simp; omega)
  refine runD_lst (T := [.lst (nls []), .lst (nls (t.dps 0))]) (k := 1) ?_ ?_
  · simp only [List.append_nil, List.nil_append] at h
    have e0 : mkL true [.sh (.int 0)] S = some (.ok (.cl S.length), S ++ [.lst [.sh (.int 0)]]) := ev_mkLT (xs := [.sh (.int 0)]) (le_line (by decide : 1 ≤ 16777216))
    have e1 : mkL true [] (S ++ [.lst [.sh (.int 0)]]) = some (.ok (.cl (S.length + 1)), S ++ [.lst [.sh (.int 0)], .lst []]) := by
      have := ev_mkLT (S := S ++ [.lst [.sh (.int 0)]]) (xs := []) (le_line (by decide : 0 ≤ 16777216))
      simpa using this
    have h' : forL (tgN 3) (dLoop) ((t.fl e).map Pt.d) [some (.sh (.tup ((t.fl e).map Pt.d))), some (.cl S.length), some (.cl (S.length + 1)), none, none] (S ++ [.lst [.sh (.int 0)], .lst []]) = some (.nx [some (.sh (.tup ((t.fl e).map Pt.d))), some (.cl S.length), some (.cl (S.length + 1)), pv, dv], S ++ [.lst (nls []), .lst (nls (t.dps 0))]) := h
    unfold dLoop at h'
    simp [B_depths, e0, e1, gFor, itT, h']
  · simp [nls]
end Pg

set_option Elab.async false
set_option linter.all false
set_option maxRecDepth 100000
set_option maxHeartbeats 2000000
/-! k04, its mathematics, part d: names exchanged. -/
namespace Pg
open PySem PySem.Spec PyProof.Rows L2 FW FwR
theorem up_fl (b : Nat) : ∀ (t : Tr) (e : Nat), t.Cl e → (t.fl e).map (Pt.up b) = t.fl (e + b)
  | .n x, _, _ => rfl
  | .v i, e, h => by
    have h' : i < e := h
    have h0 : (0 : Int) ≤ (e : Int) - 1 - i := by omega
    simp only [Tr.fl, List.map_cons, List.map_nil, Pt.up, if_pos h0]
    congr 2
    omega
  | .l t, e, h => by
    have ih := up_fl b t (e + 1) h
    simp only [Tr.fl, List.map_cons, ih]
    rw [show e + 1 + b = e + b + 1 by omega]
    rfl
  | .p x y, e, h => by
    simp only [Tr.fl, List.map_cons, List.map_append, up_fl b x e h.1, up_fl b y e h.2]
    rfl
def Tr.sub : Tr → List Nat → Tr → Tr
  | .n y, x, o => if y = x then o else .n y
  | .v i, _, _ => .v i
  | .l t, x, o => .l (t.sub x o)
  | .p a b, x, o => .p (a.sub x o) (b.sub x o)
def pls (l : List Pt) : List SV := l.map fun p => .sh p.d
theorem pls_len (l : List Pt) : (pls l).length = l.length := by simp [pls]
theorem app_pls {l : List Pt} {p : Pt} {S : Store} (h : l.length < sizeLine) : uAppend (pls l) [.sh p.d] S = some (.sh .non, pls (l ++ [p])) := by
  simp [uAppend, pls, h]
theorem ext_pls {l m : List Pt} {S : Store} (h : l.length + m.length ≤ sizeLine) : uExtend (pls l) [.sh (.lst (m.map Pt.d))] S = some (.sh .non, pls (l ++ m)) := by
  simp [uExtend, pls, h]
abbrev zg : GM := (tgT 2 (tgCons (tgN 4) (tgCons (tgN 5) tgNil)))
theorem zipD_app : ∀ {a b : List D} {c d : List D}, a.length = b.length → zipD (a ++ c) (b ++ d) = zipD a b ++ zipD c d
  | [], [], _, _, _ => rfl
  | x :: a, y :: b, c, d, h => by
    show D.tup [x, y] :: zipD (a ++ c) (b ++ d) = _
    rw [zipD_app (by simpa using h)]
    rfl
def nds (l : List Nat) : List D := l.map fun (n : Nat) => .int n
def TM (t : Tr) : D := tm (t.fl 0)
end Pg

set_option Elab.async false
set_option linter.all false
set_option maxRecDepth 100000
set_option maxHeartbeats 2000000
/-! k04, its mathematics, part e: the words in their order. -/
namespace Pg
open PySem PySem.Spec PyProof.Rows L2 FW FwR
theorem tx_app (a b : List Nat) : tx a ++ tx b = tx (a ++ b) := by
  show (⟨a.toArray ++ b.toArray⟩ : Str) = ⟨(a ++ b).toArray⟩
  simp
theorem join_e : ∀ ls : List (List Nat), Txt.join (Str.ofString "") (ls.map tx) = tx ls.flatten := fun ls => by
  show Builtin.Str.glued _ _ = _
  rw [StrLaws.glued_eq_join]
  induction ls with
  | nil => rfl
  | cons a r ih =>
    cases r with
    | nil => simp [Str.join]
    | cons b r =>
      have e : Str.join (Str.ofString "") ((a :: b :: r).map tx) = tx a ++ Str.ofString "" ++ Str.join (Str.ofString "") ((b :: r).map tx) := rfl
      rw [e, ih]
      have e2 : Str.ofString "" = tx [] := rfl
      rw [e2, tx_app, tx_app]
      simp
def dig (n : Nat) : List Nat := if h : n = 0 then [] else (97 + (n - 1) % 26) :: dig ((n - 1) / 26)
termination_by n
decreasing_by
  have : (n - 1) / 26 ≤ n - 1 := Nat.div_le_self _ _
  omega
def nthW (n : Nat) : List Nat := (dig (n + 1)).reverse
theorem dig_0 : dig 0 = [] := by unfold dig; simp
theorem dig_s (n : Nat) (h : 0 < n) : dig n = (97 + (n - 1) % 26) :: dig ((n - 1) / 26) := by
  rw [dig]; rw [dif_neg (by omega)]
theorem letter_at (j : Nat) (h : j < 26) : dIx (.str "abcdefghijklmnopqrstuvwxyz") (.int j) = some (.val (.str (tx [97 + j]))) := by
  match j, h with
  | 0, _ => rfl
  | 1, _ => rfl
  | 2, _ => rfl
  | 3, _ => rfl
  | 4, _ => rfl
  | 5, _ => rfl
  | 6, _ => rfl
  | 7, _ => rfl
  | 8, _ => rfl
  | 9, _ => rfl
  | 10, _ => rfl
  | 11, _ => rfl
  | 12, _ => rfl
  | 13, _ => rfl
  | 14, _ => rfl
  | 15, _ => rfl
  | 16, _ => rfl
  | 17, _ => rfl
  | 18, _ => rfl
  | 19, _ => rfl
  | 20, _ => rfl
  | 21, _ => rfl
  | 22, _ => rfl
  | 23, _ => rfl
  | 24, _ => rfl
  | 25, _ => rfl
  | n + 26, h => exact absurd h (by omega)
/-- letters, each a text of its own -/
def cls (l : List Nat) : List SV := l.map fun c => .sh (.str (tx [c]))
theorem app_cls {l : List Nat} {c : Nat} {S : Store} (h : l.length < sizeLine) : uAppend (cls l) [.sh (.str (tx [c]))] S = some (.sh .non, cls (l ++ [c])) := by
  simp [uAppend, cls, h]
def nTest : Sl → MM Bool := sB (b2 false dGt (sVar 2) (sC (.int 0)))
def nLoop : SM := (gSeq (gAs (bN false (on2 dDivmod) (aCons (b2 false (dI (fun _ _ => true) fun i j => i - j) (sVar 2) (sC (.int 1))) (aCons (bN false (on1 dLen) (aCons (sC (.str "abcdefghijklmnopqrstuvwxyz")) aNil)) aNil))) (tgT 2 (tgCons (tgN 2) (tgCons (tgN 3) tgNil))))
    (gEx (sMut uAppend (sVar 1) (aCons (b2 false dIx (sC (.str "abcdefghijklmnopqrstuvwxyz")) (sVar 3)) aNil))))
theorem nstep (S : Store) (q : SV) (n : Nat) (hn : 0 < n) (pv : Option SV) (acc : List Nat) (h : acc.length < 16777216) :
    nLoop [some q, some (.cl S.length), some (.sh (.int n)), pv] (S ++ [.lst (cls acc)]) = some (.nx [some q, some (.cl S.length), some (.sh (.int ((n - 1) / 26 : Nat))), some (.sh (.int ((n - 1) % 26 : Nat)))], S ++ [.lst (cls (acc ++ [97 + (n - 1) % 26]))]) := by
  have z : acc.length < sizeLine := by rw [sizeLine_val]; omega
  have e1 : dLen (.str "abcdefghijklmnopqrstuvwxyz") = some (.val (.int 26)) := rfl
  have e2 : dI (fun _ _ => true) (fun i j => i - j) (.int n) (.int 1) = some (.val (.int ((n - 1 : Nat) : Int))) := by
    show some (An.val (D.int ((n : Int) - 1))) = _
    congr 3
    omega
  have e3 : dDivmod (.int ((n - 1 : Nat) : Int)) (.int 26) = some (.tup [.int ((n - 1) / 26 : Nat), .int ((n - 1) % 26 : Nat)]) := by
    have : dDivmod (.int ((n - 1 : Nat) : Int)) (.int 26) = some (.tup [.int (((n - 1 : Nat) : Int) / 26), .int (((n - 1 : Nat) : Int) % 26)]) := by
      show (if (0 : Int) < 26 ∧ (26 : Int) < 1073741824 then some (An.tup [.int (((n - 1 : Nat) : Int) / 26), .int (((n - 1 : Nat) : Int) % 26)]) else none) = _
      exact if_pos (by decide)
    rw [this]
    rfl
  have e4 : dIx (.str "abcdefghijklmnopqrstuvwxyz") (.int (((n - 1 : Nat) : Int) % 26)) = some (.val (.str (tx [97 + (n - 1) % 26]))) := letter_at ((n - 1) % 26) (Nat.mod_lt _ (by decide))
  simp only [nLoop, ev_seq, ev_gAs, ev_exS, ev_bN, ev_bind, ev_aCons, ev_b2, ev_var, ev_sC]
  simp [e1, e2, e3, e4, on1, on2, tgT, tgCons, tgNil, sMut, cellL, app_cls z]
theorem nloop (S : Store) (q : SV) : ∀ (n : Nat) (pv : Option SV) (acc : List Nat), acc.length + n < 16777216 →
    ∃ k lv pv', whileL nTest (nLoop) k [some q, some (.cl S.length), some (.sh (.int n)), pv] (S ++ [.lst (cls acc)]) = some (.nx [some q, some (.cl S.length), some lv, pv'], S ++ [.lst (cls (acc ++ dig n))]) := fun n => by
  induction n using Nat.strongRecOn with
  | ind n ih =>
    intro pv acc h
    by_cases h0 : n = 0
    · subst h0
      refine ⟨1, .sh (.int (0 : Nat)), pv, ?_⟩
      have e : dGt (.int 0) (.int 0) = some (.val (.bl false)) := rfl
      rw [dig_0, List.append_nil]
      show exS nTest _ _ _ = _
      simp [nTest, e]
      done
    · have hn : 0 < n := by omega
      have hd : (n - 1) / 26 ≤ n - 1 := Nat.div_le_self _ _
      obtain ⟨k, lv, pv', hk⟩ := ih ((n - 1) / 26) (by omega) (some (.sh (.int ((n - 1) % 26 : Nat)))) (acc ++ [97 + (n - 1) % 26]) (by simp; omega)
      refine ⟨k + 1, lv, pv', ?_⟩
      have e : dGt (.int n) (.int 0) = some (.val (.bl true)) := by
        show some (An.val (D.bl (decide ((0 : Int) < n)))) = _
        rw [decide_eq_true (by omega)]
      have s := nstep S q n hn pv acc (by omega)
      rw [dig_s n hn]
      have e2 : acc ++ (97 + (n - 1) % 26) :: dig ((n - 1) / 26) = acc ++ [97 + (n - 1) % 26] ++ dig ((n - 1) / 26) := by simp
      rw [e2, ← hk]
      show exS nTest _ _ _ = _
      have et : nTest [some q, some (.cl S.length), some (.sh (.int n)), pv] (S ++ [.lst (cls acc)]) = some (.ok true, S ++ [.lst (cls acc)]) := by simp [nTest, e]
      rw [ev_exS, et]
      simp only [if_true]
      rw [s]
theorem flat1 : ∀ l : List Nat, (l.map fun c => [c]).flatten = l
  | [] => rfl
  | a :: r => by simp [flat1 r]
theorem dig_len (n : Nat) : (dig n).length ≤ n := by
  induction n using Nat.strongRecOn with
  | ind n ih =>
    by_cases h0 : n = 0
    · subst h0; rw [dig_0]; simp
    · rw [dig_s n (by omega)]
      have hd : (n - 1) / 26 ≤ n - 1 := Nat.div_le_self _ _
      have := ih ((n - 1) / 26) (by omega)
      simp; omega
theorem nth_word_eq (n : Nat) (S : Store) (h : n < 1000000) : S_nth_word [.sh (.int n)] S = some (.ok (.sh (.str (tx (nthW n)))), S) := by
  obtain ⟨k, lv, pv', hk⟩ := nloop S (.sh (.int n)) (n + 1) none [] (by simp; omega)
  refine runD_own [.lst (cls (dig (n + 1)))] ?_
  have e1 : mkL true [] S = some (.ok (.cl S.length), S ++ [.lst []]) := ev_mkLT (xs := []) (le_line (by decide : 0 ≤ 16777216))
  have e2 : dAdd (.int n) (.int 1) = some (.val (.int ((n : Int) + 1))) := rfl
  have hw := gWhile_eq hk
  rw [List.nil_append] at hw
  have hw' : gWhile nTest (nLoop) [some (.sh (.int n)), some (.cl S.length), some (.sh (.int ((n : Int) + 1))), none] (S ++ [.lst []]) = some (.nx [some (.sh (.int n)), some (.cl S.length), some lv, pv'], S ++ [.lst (cls (dig (n + 1)))]) := hw
  have ea : allSh (cls (dig (n + 1))) = some ((dig (n + 1)).map fun c => D.str (tx [c])) := by
    have := allSh_map ((dig (n + 1)).map fun c => D.str (tx [c]))
    rw [List.map_map] at this
    exact this
  have ej : dJoinR (.str "") (.lst ((dig (n + 1)).map fun c => D.str (tx [c]))) = some (.val (.str (tx (nthW n)))) := by
    have es : strsD ((dig (n + 1)).map fun c => D.str (tx [c])) = some ((dig (n + 1)).map fun c => tx [c]) := by
      have := strsD_map ((dig (n + 1)).map fun c => tx [c])
      rw [List.map_map] at this
      exact this
    have hl : (((dig (n + 1)).map fun c => tx [c]).map (·.length)).sum + ((dig (n + 1)).map fun c => tx [c]).length * (Str.ofString "").length ≤ 16777216 := by
      have h1 : (((dig (n + 1)).map fun c => tx [c]).map (·.length)).sum = (dig (n + 1)).length := by
        rw [List.map_map]
        induction dig (n + 1) with
        | nil => rfl
        | cons a r ih => simp [ih, tx_len]; omega
      have h2 := dig_len (n + 1)
      have h3 : (Str.ofString "").length = 0 := rfl
      rw [h1, h3]
      omega
    show ((lstD (.lst _)).bind fun ds => (strsD ds).bind fun ys => if (ys.map (·.length)).sum + ys.length * (Str.ofString "").length ≤ 16777216 then some (An.val (D.str (Txt.join (Str.ofString "") ys.reverse))) else none) = _
    simp only [lstD, Option.bind_some, es, if_pos hl]
    have : ((dig (n + 1)).map fun c => tx [c]).reverse = ((nthW n).map fun c => [c]).map tx := by
      simp [nthW, List.map_reverse]
    rw [this, join_e]
    rw [flat1]
  unfold nTest nLoop at hw'
  simp [B_nth_word, e1, e2, hw', sJoinRev, lookD, ea, ej]
end Pg

set_option Elab.async false
set_option linter.all false
set_option maxRecDepth 100000
set_option maxHeartbeats 2000000
/-! k04, its mathematics, part f: words that are not taken. -/
namespace Pg
open PySem PySem.Spec PyProof.Rows L2 FW FwR
theorem dig_inj : ∀ (n m : Nat), dig n = dig m → n = m := fun n => by
  induction n using Nat.strongRecOn with
  | ind n ih =>
    intro m h
    by_cases h0 : n = 0
    · subst h0
      by_cases m0 : m = 0
      · exact m0.symm
      · rw [dig_0, dig_s m (by omega)] at h; cases h
    · by_cases m0 : m = 0
      · subst m0; rw [dig_0, dig_s n (by omega)] at h; cases h
      · rw [dig_s n (by omega), dig_s m (by omega)] at h
        injection h with h1 h2
        have hd : (n - 1) / 26 ≤ n - 1 := Nat.div_le_self _ _
        have e := ih ((n - 1) / 26) (by omega) _ h2
        have := Nat.div_add_mod (n - 1) 26
        have := Nat.div_add_mod (m - 1) 26
        omega
theorem nthW_inj {n m : Nat} (h : nthW n = nthW m) : n = m := by
  unfold nthW at h
  have h2 := List.reverse_inj.mp h
  have := dig_inj _ _ h2
  omega
/-- the first j words, without those that are taken -/
def nf (hd : List (List Nat)) (j : Nat) : List (List Nat) := ((List.range j).map nthW).filter fun w => !decide (w ∈ hd)
theorem nf_0 (hd : List (List Nat)) : nf hd 0 = [] := rfl
theorem nf_s (hd : List (List Nat)) (j : Nat) : nf hd (j + 1) = nf hd j ++ (if nthW j ∈ hd then [] else [nthW j]) := by
  unfold nf
  rw [List.range_succ, List.map_append, List.filter_append]
  congr 1
  by_cases h : nthW j ∈ hd <;> simp [h]
theorem nf_pre (hd : List (List Nat)) {j k : Nat} (h : j ≤ k) : ∃ r, nf hd k = nf hd j ++ r := by
  induction h with
  | refl => exact ⟨[], by simp⟩
  | step _ ih => obtain ⟨r, e⟩ := ih; rw [nf_s, e, List.append_assoc]; exact ⟨_, rfl⟩
theorem nf_len (hd : List (List Nat)) (j : Nat) : (nf hd j).length ≤ j := by
  unfold nf
  refine Nat.le_trans (List.length_filter_le _ _) ?_
  simp
theorem cnt : ∀ (H W : List (List Nat)), W.Nodup → (W.filter fun w => decide (w ∈ H)).length ≤ H.length
  | [], W, _ => by simp
  | a :: H, W, h => by
    have ih := cnt H W h
    have h1 : (W.filter fun w => decide (w = a)).length ≤ 1 := by
      clear ih
      induction W with
      | nil => simp
      | cons b W ih =>
        rw [List.nodup_cons] at h
        by_cases e : b = a
        · subst e
          have : (W.filter fun w => decide (w = b)) = [] := by
            rw [List.filter_eq_nil_iff]
            intro x hx
            simp only [decide_eq_true_eq]
            rintro rfl
            exact h.1 hx
          simp [this]
        · simp [e]; exact ih h.2
    have h2 : ∀ V : List (List Nat), (V.filter fun w => decide (w ∈ a :: H)).length ≤ (V.filter fun w => decide (w = a)).length + (V.filter fun w => decide (w ∈ H)).length := by
      intro V
      induction V with
      | nil => simp
      | cons b V ih =>
        by_cases e1 : b = a
        · by_cases e2 : b ∈ H <;> simp [e1] <;> simp [e1] at e2 <;> simp [e2] at ih ⊢ <;> omega
        · by_cases e2 : b ∈ H <;> simp [e1, e2] at ih ⊢ <;> omega
    have := h2 W
    simp only [List.length_cons]
    omega
theorem nf_ge (hd : List (List Nat)) (j : Nat) : j ≤ (nf hd j).length + hd.length := by
  have hn : ((List.range j).map nthW).Nodup := by
    rw [List.nodup_iff_pairwise_ne, List.pairwise_map]
    exact (List.nodup_iff_pairwise_ne.mp List.nodup_range).imp fun h e => h (nthW_inj e)
  have h1 := cnt hd _ hn
  have h2 : ∀ V : List (List Nat), V.length = (V.filter fun w => decide (w ∈ hd)).length + (V.filter fun w => !decide (w ∈ hd)).length := by
    intro V
    induction V with
    | nil => rfl
    | cons a V ih => by_cases e : a ∈ hd <;> simp [e] <;> omega
  have := h2 ((List.range j).map nthW)
  simp only [List.length_map, List.length_range] at this
  unfold nf
  omega
def wls (l : List (List Nat)) : List SV := l.map fun w => .sh (.str (tx w))
def wds (l : List (List Nat)) : List D := l.map fun w => .str (tx w)
theorem wls_all (l : List (List Nat)) : allSh (wls l) = some (wds l) := by
  have := allSh_map (wds l)
  unfold wds at this
  rw [List.map_map] at this
  exact this
theorem app_wls {l : List (List Nat)} {w : List Nat} {S : Store} (h : l.length < sizeLine) : uAppend (wls l) [.sh (.str (tx w))] S = some (.sh .non, wls (l ++ [w])) := by
  simp [uAppend, wls, h]
theorem mem_insAll {xs : List Str} {k : Str} : k ∈ FwS.insAll xs ↔ k ∈ xs := by
  unfold FwS.insAll
  have : ∀ (xs acc : List Str), k ∈ xs.foldl FwS.ins acc ↔ k ∈ acc ∨ k ∈ xs := by
    intro xs
    induction xs with
    | nil => simp
    | cons a r ih =>
      intro acc
      rw [List.foldl_cons, ih]
      unfold FwS.ins
      split
      · rename_i h
        simp only [List.mem_cons]
        constructor
        · rintro (q | q)
          · exact .inl q
          · exact .inr (.inr q)
        · rintro (q | q | q)
          · exact .inl q
          · subst q; exact .inl h
          · exact .inr q
      · simp only [List.mem_append, List.mem_cons, List.mem_singleton, List.not_mem_nil, or_false]
        constructor
        · rintro ((q | q) | q)
          · exact .inl q
          · exact .inr (.inl q)
          · exact .inr (.inr q)
        · rintro (q | q | q)
          · exact .inl (.inl q)
          · exact .inl (.inr q)
          · exact .inr q
  rw [this]
  simp
theorem mem_tx {l : List (List Nat)} {w : List Nat} : tx w ∈ l.map tx ↔ w ∈ l := by
  rw [List.mem_map]
  constructor
  · rintro ⟨a, ha, e⟩
    rw [← tx_inj e]; exact ha
  · exact fun h => ⟨w, h, rfl⟩
def sTest : Sl → MM Bool := sB (b2 false dLt (bN false (on1 dLen) (aCons (sVar 3) aNil)) (sVar 1))
noncomputable def sLoop : SM := (gSeq (gAs (sCall 1 (S_nth_word) (aCons (sVar 4) aNil)) (tgN 5))
    (gSeq (gIf (sB (b2 false (dInA true) (sVar 5) (sVar 2))) (gEx (sMut uAppend (sVar 3) (aCons (sVar 5) aNil))) gNx)
    (gAug 4 false (dI (fun _ _ => true) fun i j => i + j) (sC (.int 1)))))
theorem sstep (S : Store) (q mv : SV) (hd : List (List Nat)) (xs : List Str) (hx : ∀ w, tx w ∈ xs ↔ w ∈ hd) (j : Nat) (hj : j < 1000000) (pv : Option SV) (acc : List (List Nat)) (h : acc.length < 16777216) :
    sLoop [some q, some mv, some (.sh (.set xs)), some (.cl S.length), some (.sh (.int j)), pv] (S ++ [.lst (wls acc)]) =
      some (.nx [some q, some mv, some (.sh (.set xs)), some (.cl S.length), some (.sh (.int ((j : Int) + 1))), some (.sh (.str (tx (nthW j))))], S ++ [.lst (wls (acc ++ (if nthW j ∈ hd then [] else [nthW j])))]) := by
  have z : acc.length < sizeLine := by rw [sizeLine_val]; omega
  have e1 : dInA true (.str (tx (nthW j))) (.set xs) = some (.val (.bl (!decide (nthW j ∈ hd)))) := by
    show some (An.val (D.bl (true != decide (tx (nthW j) ∈ xs)))) = _
    simp [hx]
  by_cases c : nthW j ∈ hd
  · simp [sLoop, nth_word_eq j _ hj, e1, c, gAug, dI]
  · simp [sLoop, nth_word_eq j _ hj, e1, c, gAug, dI, sMut, cellL, app_wls z]
theorem sloop (S : Store) (q : SV) (hd : List (List Nat)) (xs : List Str) (hx : ∀ w, tx w ∈ xs ↔ w ∈ hd) (many J : Nat) (hJ : J < 1000000) (hm : many ≤ (nf hd J).length) : ∀ (r j : Nat) (pv : Option SV), j + r = J → (nf hd j).length ≤ many →
    ∃ k jv pv', whileL sTest (sLoop) k [some q, some (.sh (.int many)), some (.sh (.set xs)), some (.cl S.length), some (.sh (.int j)), pv] (S ++ [.lst (wls (nf hd j))]) =
      some (.nx [some q, some (.sh (.int many)), some (.sh (.set xs)), some (.cl S.length), some jv, pv'], S ++ [.lst (wls ((nf hd J).take many))]) := fun r => by
  induction r with
  | zero =>
    intro j pv hj hl
    have e : j = J := by omega
    subst e
    have el : (nf hd j).length = many := by omega
    refine ⟨1, .sh (.int j), pv, ?_⟩
    have e1 : dLt (.int ((nf hd j).length : Nat)) (.int many) = some (.val (.bl false)) := by
      show some (An.val (D.bl (decide (((nf hd j).length : Int) < (many : Int))))) = _
      rw [decide_eq_false (by omega)]
    have e2 : dLen (.lst (wds (nf hd j))) = some (.val (.int ((nf hd j).length : Nat))) := by simp [dLen, seqD, wds]
    have e3 : (nf hd j).take many = nf hd j := List.take_of_length_le (by omega)
    rw [e3]
    show exS sTest _ _ _ = _
    simp [sTest, on1, lookD, wls_all, e2, e1]
  | succ r ih =>
    intro j pv hj hl
    have e2 : dLen (.lst (wds (nf hd j))) = some (.val (.int ((nf hd j).length : Nat))) := by simp [dLen, seqD, wds]
    by_cases c : (nf hd j).length = many
    · refine ⟨1, .sh (.int j), pv, ?_⟩
      have e1 : dLt (.int ((nf hd j).length : Nat)) (.int many) = some (.val (.bl false)) := by
        show some (An.val (D.bl (decide (((nf hd j).length : Int) < (many : Int))))) = _
        rw [decide_eq_false (by omega)]
      have e3 : (nf hd J).take many = nf hd j := by
        obtain ⟨t, e⟩ := nf_pre hd (show j ≤ J by omega)
        rw [e, ← c]
        simp
      rw [e3]
      show exS sTest _ _ _ = _
      simp [sTest, on1, lookD, wls_all, e2, e1]
    · have e1 : dLt (.int ((nf hd j).length : Nat)) (.int many) = some (.val (.bl true)) := by
        show some (An.val (D.bl (decide (((nf hd j).length : Int) < (many : Int))))) = _
        rw [decide_eq_true (by omega)]
      have hl2 : (nf hd (j + 1)).length ≤ many := by
        rw [nf_s, List.length_append]
        split <;> simp <;> omega
      have hjl := nf_len hd j
      have s := sstep S q (.sh (.int many)) hd xs hx j (by omega) pv (nf hd j) (by omega)
      rw [← nf_s] at s
      obtain ⟨k, jv, pv', hk⟩ := ih (j + 1) (some (.sh (.str (tx (nthW j))))) (by omega) hl2
      refine ⟨k + 1, jv, pv', ?_⟩
      rw [← hk]
      show exS sTest _ _ _ = _
      have et : sTest [some q, some (.sh (.int many)), some (.sh (.set xs)), some (.cl S.length), some (.sh (.int j)), pv] (S ++ [.lst (wls (nf hd j))]) = some (.ok true, S ++ [.lst (wls (nf hd j))]) := by simp [sTest, on1, lookD, wls_all, e2, e1]
      rw [ev_exS, et]
      simp only [if_true]
      rw [s]
      rfl
theorem spare_words_eq (hd : List (List Nat)) (ys : List Str) (hy : ∀ w, tx w ∈ ys ↔ w ∈ hd) (many : Nat) (S : Store) (h1 : ys.length < 4000) (h2 : hd.length < 4000) (h3 : many < 100000) :
    S_spare_words [.sh (.lst (ys.map D.str)), .sh (.int many)] S = some (.ok (.sh (.lst (wds ((nf hd (many + hd.length)).take many)))), S) := by
  have hx : ∀ w, tx w ∈ FwS.insAll ys ↔ w ∈ hd := fun w => by rw [mem_insAll]; exact hy w
  have hm : many ≤ (nf hd (many + hd.length)).length := by have := nf_ge hd (many + hd.length); omega
  obtain ⟨k, jv, pv', hk⟩ := sloop S (.sh (.lst (ys.map D.str))) hd (FwS.insAll ys) hx many (many + hd.length) (by omega) hm (many + hd.length) 0 none (by omega) (by simp [nf_0])
  have hw := gWhile_eq hk
  refine runD_lst (T := [.lst (wls ((nf hd (many + hd.length)).take many))]) (k := 0) ?_ (by simp [wls, wds]; rfl)
  have e1 : mkL true [] S = some (.ok (.cl S.length), S ++ [.lst []]) := ev_mkLT (xs := []) (le_line (by decide : 0 ≤ 16777216))
  have e2 : dSetOf (.lst (ys.map D.str)) = some (.set (FwS.insAll ys)) := by
    unfold dSetOf lstD
    simp only [Option.bind_some, strsD_map]
    rw [if_pos (by show ys.length + 1 < 4096; omega)]
  have hw' : gWhile sTest (sLoop) [some (.sh (.lst (ys.map D.str))), some (.sh (.int many)), some (.sh (.set (FwS.insAll ys))), some (.cl S.length), some (.sh (.int 0)), none] (S ++ [.lst []]) = some (.nx [some (.sh (.lst (ys.map D.str))), some (.sh (.int many)), some (.sh (.set (FwS.insAll ys))), some (.cl S.length), some jv, pv'], S ++ [.lst (wls ((nf hd (many + hd.length)).take many))]) := hw
  unfold sTest sLoop at hw'
  simp [B_spare_words, on1, e1, e2, hw']
/-! ### the free names -/
def Pt.nm : Pt → Option (List Nat)
  | .w x => some x
  | .i _ => none
theorem lcS_parts {ss : Sl} {S : Store} (q : SV) : ∀ (ps : List Pt) (acc : List Str) (v : Option SV), ss = [some q, v] → acc.length + ps.length + 1 < 4096 →
    lcS [1] (tgN 1) (sB (bN false (on2 dIsi) (aCons (sVar 1) (aCons (sC (.ty "str")) aNil)))) (sVar 1) (ps.map Pt.d) acc ss S = some (((ps.filterMap Pt.nm).map tx).foldl FwS.ins acc, S)
  | [], acc, v, hs, hl => by simp [lcS]
  | .w x :: ps, acc, v, hs, hl => by
    have e0 : dIsi (.str (tx x)) (.ty "str") = some (.val (.bl true)) := by
      unfold dIsi tyN
      have : kitB "str" "str" = some true := by decide
      simp [this]
    have hlen := FwS.ins_len acc (tx x)
    have ih := lcS_parts (S := S) q ps (FwS.ins acc (tx x)) v hs (by simp at hl; omega)
    have ha : acc.length + 1 < scanBound := by show _ < 4096; simp at hl; omega
    subst hs
    show lcS _ _ _ _ (D.str (tx x) :: ps.map Pt.d) acc _ S = _
    unfold lcS
    simp [wipeS, on2, e0, if_pos ha, cut_self, ih, Pt.nm, List.filterMap_cons]
  | .i j :: ps, acc, v, hs, hl => by
    have e0 : dIsi (.int j) (.ty "str") = some (.val (.bl false)) := by
      unfold dIsi tyN
      have : kitB "int" "str" = some false := by decide
      simp [this]
    have ih := lcS_parts (S := S) q ps acc v hs (by simp at hl; omega)
    subst hs
    show lcS _ _ _ _ (D.int j :: ps.map Pt.d) acc _ S = _
    unfold lcS
    simp [wipeS, on2, e0, cut_self, ih, Pt.nm, List.filterMap_cons]
def Tr.free : Tr → List (List Nat)
  | .n x => [x]
  | .v _ => []
  | .l t => t.free
  | .p a b => a.free ++ b.free
theorem free_fl : ∀ (t : Tr) (e : Nat), (t.fl e).filterMap Pt.nm = t.free
  | .n x, _ => rfl
  | .v i, _ => rfl
  | .l t, e => by
    show ((Pt.i (-1)) :: t.fl (e + 1)).filterMap Pt.nm = t.free
    rw [List.filterMap_cons_none rfl]
    exact free_fl t (e + 1)
  | .p a b, e => by
    show ((Pt.i (-2)) :: (a.fl e ++ b.fl e)).filterMap Pt.nm = a.free ++ b.free
    rw [List.filterMap_cons_none rfl, List.filterMap_append, free_fl a e, free_fl b e]
theorem insAll_len (xs : List Str) (F : List Str) (h : ∀ x ∈ xs, x ∈ F) : (FwS.insAll xs).length ≤ F.length := by
  have hn : (FwS.insAll xs).Nodup := by
    unfold FwS.insAll
    have : ∀ (xs acc : List Str), acc.Nodup → (xs.foldl FwS.ins acc).Nodup := by
      intro xs
      induction xs with
      | nil => exact fun acc h => h
      | cons a r ih => exact fun acc h => ih _ (FwS.ins_nodup h)
    exact this xs [] List.nodup_nil
  have hs : ∀ x ∈ FwS.insAll xs, x ∈ F := fun x hx => h x (mem_insAll.mp hx)
  generalize FwS.insAll xs = ys at hn hs
  clear h
  induction ys generalizing F with
  | nil => simp
  | cons a r ih =>
    rw [List.nodup_cons] at hn
    have ha := hs a List.mem_cons_self
    have := ih (F.erase a) hn.2 fun x hx => by
      have hne : x ≠ a := fun e => hn.1 (e ▸ hx)
      exact (List.mem_erase_of_ne hne).mpr (hs x (List.mem_cons_of_mem _ hx))
    rw [List.length_erase_of_mem ha] at this
    have hF : 0 < F.length := List.length_pos_of_mem ha
    simp only [List.length_cons]
    omega
theorem free_words_eq (t : Tr) (e : Nat) (S : Store) (F : List (List Nat)) (hF : ∀ x ∈ t.free, x ∈ F) (h1 : F.length < 64) (hs : t.size < 4000) :
    ∃ ys : List Str, S_free_words [.sh (.tup ((t.fl e).map Pt.d))] S = some (.ok (.sh (.lst (ys.map D.str))), S) ∧ (∀ w, tx w ∈ ys ↔ w ∈ t.free) ∧ ys.length < 64 := by
  have hl : (FwS.insAll (t.free.map tx)).length < 64 := by
    have := insAll_len (t.free.map tx) (F.map tx) fun x hx => by
      obtain ⟨w, hw, rfl⟩ := List.mem_map.mp hx
      exact mem_tx.mpr (hF w hw)
    rw [List.length_map] at this
    omega
  refine ⟨FwS.sortS (FwS.insAll (t.free.map tx)), ?_, fun w => ?_, by rw [FwS.sortS_length]; exact hl⟩
  · refine runD_0 ?_
    have ec : sCompS [1] (itT (sVar 0)) (tgN 1) (sB (bN false (on2 dIsi) (aCons (sVar 1) (aCons (sC (.ty "str")) aNil)))) (sVar 1) [some (.sh (.tup ((t.fl e).map Pt.d))), none] S = some (.ok (.sh (.set (FwS.insAll (t.free.map tx)))), S) := by
      unfold sCompS
      have := lcS_parts (S := S) (.sh (.tup ((t.fl e).map Pt.d))) (t.fl e) [] none rfl (by rw [Tr.fl_len]; simp; omega)
      rw [free_fl] at this
      simp [itT, this]
      rfl
    have es : dSort (.set (FwS.insAll (t.free.map tx))) = some (.lst ((FwS.sortS (FwS.insAll (t.free.map tx))).map D.str)) := if_pos hl
    simp [B_free_words, ec, on1, es]
  · rw [(FwS.sortS_perm _).mem_iff, mem_insAll, mem_tx]
end Pg

set_option Elab.async false
set_option linter.all false
set_option maxRecDepth 100000
set_option maxHeartbeats 2000000
/-! k04, its mathematics, part g: the text of a term. -/
namespace Pg
open PySem PySem.Spec PyProof.Rows L2 FW FwR
/-! ### how many words it wants -/
def Tr.top : Tr → Nat → Nat
  | .n _, d => d
  | .v _, d => d
  | .l t, d => t.top (d + 1)
  | .p a b, d => max (a.top d) (b.top d)
theorem top_ge : ∀ (t : Tr) (d : Nat), d ≤ t.top d
  | .n _, d => Nat.le_refl _
  | .v _, d => Nat.le_refl _
  | .l t, d => Nat.le_trans (Nat.le_succ d) (top_ge t (d + 1))
  | .p a b, d => Nat.le_trans (top_ge a d) (Nat.le_max_left _ _)
theorem top_le : ∀ (t : Tr) (d : Nat), t.top d ≤ d + t.size
  | .n _, d => by simp [Tr.top]
  | .v _, d => by simp [Tr.top]
  | .l t, d => by have := top_le t (d + 1); simp [Tr.top, Tr.size] at this ⊢; omega
  | .p a b, d => by have := top_le a d; have := top_le b d; simp [Tr.top, Tr.size] at *; omega
theorem dps_top : ∀ (t : Tr) (d : Nat), (∀ y ∈ t.dps d, y ≤ t.top d) ∧ t.top d ∈ t.dps d
  | .n _, d => by simp [Tr.dps, Tr.top]
  | .v _, d => by simp [Tr.dps, Tr.top]
  | .l t, d => by
    obtain ⟨h1, h2⟩ := dps_top t (d + 1)
    have := top_ge t (d + 1)
    refine ⟨fun y hy => ?_, List.mem_cons_of_mem _ h2⟩
    rcases List.mem_cons.mp hy with e | e
    · subst e; show y ≤ t.top (y + 1); omega
    · exact h1 y e
  | .p a b, d => by
    obtain ⟨h1, h2⟩ := dps_top a d
    obtain ⟨h3, h4⟩ := dps_top b d
    have := top_ge a d
    refine ⟨fun y hy => ?_, ?_⟩
    · show y ≤ max _ _
      rcases List.mem_cons.mp hy with e | e
      · omega
      · rcases List.mem_append.mp e with e | e
        · have := h1 y e; omega
        · have := h3 y e; omega
    · show max _ _ ∈ _
      rcases Nat.le_total (a.top d) (b.top d) with q | q
      · rw [Nat.max_eq_right q]; exact List.mem_cons_of_mem _ (List.mem_append_right _ h4)
      · rw [Nat.max_eq_left q]; exact List.mem_cons_of_mem _ (List.mem_append_left _ h2)
theorem dMax_dps (t : Tr) : dMax (.lst ((t.dps 0).map fun (n : Nat) => .int n)) = some (.val (.int (t.top 0 : Nat))) := by
  obtain ⟨h1, h2⟩ := dps_top t 0
  have e1 : intsD ((t.dps 0).map fun (n : Nat) => D.int n) = some ((t.dps 0).map fun (n : Nat) => (n : Int)) := by
    have := intsD_map ((t.dps 0).map fun (n : Nat) => (n : Int))
    rw [List.map_map] at this
    exact this
  have hne : (t.dps 0).map (fun (n : Nat) => (n : Int)) ≠ [] := by
    intro e
    have : (t.dps 0).length = 0 := by have := congrArg List.length e; simpa using this
    rw [Tr.dps_len] at this
    cases t <;> simp [Tr.size] at this
  have e2 : maxI ((t.dps 0).map fun (n : Nat) => (n : Int)) = (t.top 0 : Nat) := by
    have a := maxI_mem hne
    obtain ⟨y, hy, ey⟩ := List.mem_map.mp a
    have b := h1 y hy
    have c : ((t.top 0 : Nat) : Int) ≤ maxI _ := maxI_le (List.mem_map.mpr ⟨_, h2, rfl⟩)
    rw [← ey] at c ⊢
    omega
  unfold dMax lstD
  simp only [Option.bind_some, e1, e2]
  rw [if_pos (List.length_pos_iff.mpr hne)]
/-- the words that a term's text takes -/
def tw (t : Tr) : List (List Nat) := (nf t.free (t.top 0 + t.free.length)).take (t.top 0)
theorem free_len : ∀ t : Tr, t.free.length ≤ t.size
  | .n _ => by simp [Tr.free, Tr.size]
  | .v _ => by simp [Tr.free]
  | .l t => by have := free_len t; simp [Tr.free, Tr.size]; omega
  | .p a b => by have := free_len a; have := free_len b; simp [Tr.free, Tr.size]; omega
theorem told_words_eq (t : Tr) (S : Store) (F : List (List Nat)) (hF : ∀ x ∈ t.free, x ∈ F) (h1 : F.length < 64) (hs : t.size < 4000) (ho : t.Ok) (hc : t.Cl 0) :
    S_told_words [.sh (.tup ((t.fl 0).map Pt.d))] S = some (.ok (.sh (.lst (wds (tw t)))), S) := by
  obtain ⟨ys, e1, hy, hl⟩ := free_words_eq t 0 S F hF h1 hs
  have e2 := depths_eq t 0 S ho hc (by omega)
  have e3 := dMax_dps t
  have := top_le t 0
  have := free_len t
  have e4 := spare_words_eq t.free ys hy (t.top 0) S (by omega) (by omega) (by omega)
  refine runD_0 ?_
  simp [B_told_words, e1, e2, on1, e3, e4, tw]
/-! ### brackets -/
inductive Pl where
  | whole | function | argument
deriving DecidableEq
def Pl.s : Pl → Str
  | .whole => "whole"
  | .function => "function"
  | .argument => "argument"
theorem dEq_pl (n : Bool) (p q : Pl) : dEq n (.str p.s) (.str q.s) = some (.val (.bl (n != decide (p = q)))) := by
  have h : ∀ p : Pl, PyData.strOk p.s = true := fun p => by cases p <;> decide +kernel
  rw [dEq_ss n (h p) (h q)]
  have : (p.s == q.s) = decide (p = q) := by cases p <;> cases q <;> decide +kernel
  rw [this]
def br : Pt → Pl → Bool
  | .i (-1), p => decide (p ≠ .whole)
  | .i (-2), p => decide (p = .argument)
  | _, _ => false
theorem needs_eq (x : Pt) (hx : x.ok) (p : Pl) (S : Store) : S_needs_brackets [.sh x.d, .sh (.str p.s)] S = some (.ok (.sh (.bl (br x p))), S) := by
  have e1 := dEq_pt false (p := x) (q := .i (-1)) hx trivial
  have e2 := dEq_pt false (p := x) (q := .i (-2)) hx trivial
  simp only [show (Pt.i (-1)).d = D.int (-1) from rfl, show (Pt.i (-2)).d = D.int (-2) from rfl] at e1 e2
  have e3 : dEq true (.str p.s) (.str "whole") = some (.val (.bl (true != decide (p = .whole)))) := dEq_pl true p .whole
  have e4 : dEq false (.str p.s) (.str "argument") = some (.val (.bl (false != decide (p = .argument)))) := dEq_pl false p .argument
  refine runD_0 ?_
  by_cases c1 : x = .i (-1)
  · subst c1
    simp [B_needs_brackets, e1, e3, br]
  · by_cases c2 : x = .i (-2)
    · subst c2
      simp [B_needs_brackets, e1, e2, e4, br]
    · have hb : br x p = false := by
        unfold br
        split
        · exact absurd rfl c1
        · exact absurd rfl c2
        · rfl
      simp [B_needs_brackets, e1, e2, c1, c2, hb]
/-- a function's head -/
def hpc (w : List Nat) : List Nat := 91 :: (w ++ [93, 32])
/-- the pieces of a text, told by words wd, below d functions, what comes behind -/
def tp (wd : Nat → List Nat) : Tr → Nat → Pl → List Nat → List (List Nat)
  | .n x, _, _, b => [x ++ b]
  | .v i, d, _, b => [wd (d - 1 - i) ++ b]
  | .l t, d, p, b => if p = .whole then hpc (wd d) :: tp wd t (d + 1) .whole b else [40] :: hpc (wd d) :: tp wd t (d + 1) .whole (41 :: b)
  | .p a c, d, p, b => if p = .argument then [40] :: (tp wd a d .function [32] ++ tp wd c d .argument (41 :: b)) else tp wd a d .function [32] ++ tp wd c d .argument b
end Pg

set_option Elab.async false
set_option linter.all false
set_option maxRecDepth 100000
set_option maxHeartbeats 4000000
/-! k04, its mathematics, part h: the pieces of a text. -/
namespace Pg
open PySem PySem.Spec PyProof.Rows L2 FW FwR
def wts (l : List (Nat × Pl × List Nat)) : List SV := l.map fun w => .sh (.tup [.int (w.1 : Nat), .str w.2.1.s, .str (tx w.2.2)])
theorem pop_wts {l : List (Nat × Pl × List Nat)} {d : Nat} {p : Pl} {b : List Nat} {S : Store} : uPop (wts (l ++ [(d, p, b)])) [] S = some (.sh (.tup [.int (d : Nat), .str p.s, .str (tx b)]), wts l) := by
  simp [uPop, wts]
theorem app_wts {l : List (Nat × Pl × List Nat)} {d : Nat} {p : Pl} {b : List Nat} {S : Store} (h : l.length < sizeLine) : uAppend (wts l) [.sh (.tup [.int (d : Nat), .str p.s, .str (tx b)])] S = some (.sh .non, wts (l ++ [(d, p, b)])) := by
  simp [uAppend, wts, h]
theorem dAdd_ss {a b : List Nat} (h : a.length + b.length ≤ 16777216) : dAdd (.str (tx a)) (.str (tx b)) = some (.val (.str (tx (a ++ b)))) := by
  show (match dAddS (.str (tx a)) (.str (tx b)) with | some a => some a | none => dAddL (.str (tx a)) (.str (tx b))) = _
  have : dAddS (.str (tx a)) (.str (tx b)) = some (.val (.str (tx (a ++ b)))) := by
    show (if (tx a).length + (tx b).length ≤ sizeLine then some (An.val (D.str (tx a ++ tx b))) else none) = _
    rw [if_pos (by rw [tx_len, tx_len]; exact le_line h), tx_app]
  rw [this]
theorem atI_nat {α : Type} {xs : List α} {i : Nat} {a : α} (h : xs[i]? = some a) : atI xs (i : Int) = some a := by
  have hi := (List.getElem?_eq_some_iff.mp h).1
  unfold atI ixN
  rw [if_pos (by omega), if_pos (by omega)]
  simpa using h
theorem dIx_wds {ws : List (List Nat)} {i : Nat} {w : List Nat} (h : ws[i]? = some w) : dIx (.lst (wds ws)) (.int i) = some (.val (.str (tx w))) := by
  show ((seqD (.lst (wds ws))).bind fun ds => (atI ds i).map An.val) = _
  have : (wds ws)[i]? = some (.str (tx w)) := by simp [wds, h]
  simp [seqD, atI_nat this]
theorem joined_eq {f : Sl → MM SV} {ss : Sl} {S : Store} {w : List Nat} (h : f ss S = some (.ok (.sh (.str (tx w))), S)) (hl : w.length ≤ 1000000) : sJoined [sC (.str "["), sFmt f, sC (.str "] ")] ss S = some (.ok (.sh (.str (tx (hpc w)))), S) := by
  have ehp : hpc w = [91] ++ w ++ [93, 32] := by simp [hpc]
  rw [ehp]
  have e1 : Str.empty ++ Str.ofString "[" = tx [91] := rfl
  have e2 : Str.ofString "] " = tx [93, 32] := rfl
  have l1 : (tx [91]).length ≤ sizeLine := by rw [tx_len]; exact le_line (by decide)
  have l0 : (tx w).length ≤ sizeLine := by rw [tx_len]; exact le_line (by omega)
  have l2 : (tx ([91] ++ w)).length ≤ sizeLine := by rw [tx_len]; exact le_line (by simp; omega)
  have l3 : (tx ([91] ++ w ++ [93, 32])).length ≤ sizeLine := by rw [tx_len]; exact le_line (by simp; omega)
  unfold sJoined runJ
  rw [ev_bind, ev_bind, ev_sC]
  simp only [e1, if_pos l1]
  unfold runJ
  have e3 : sFmt f ss S = some (.ok (.sh (.str (tx w))), S) := by
    unfold sFmt
    rw [ev_bind, h]
    simp only [if_pos l0]
  rw [ev_bind, e3]
  simp only [tx_app, if_pos l2]
  unfold runJ
  rw [ev_bind, ev_sC]
  simp only [e2, tx_app, if_pos l3]
  rfl
noncomputable def tBody : SM := (gSeq (gAs (sMut uPop (sVar 3) aNil) (tgT 3 (tgCons (tgN 5) (tgCons (tgN 6) (tgCons (tgN 7) tgNil)))))
    (gSeq (gIf (sB (sCall 2 (S_needs_brackets) (aCons (sVar 4) (aCons (sVar 6) aNil)))) (gSeq (gEx (sMut uAppend (sVar 2) (aCons (sC (.str "(")) aNil)))
    (gAs (b2 false dAdd (sC (.str ")")) (sVar 7)) (tgN 7))) gNx)
    (gIf (sB (b2 false (dEq false) (sVar 4) (sC (.int (-1))))) (gSeq (gEx (sMut uAppend (sVar 2) (aCons (sJoined [(sC (.str "[")), (sFmt (b2 false dIx (sVar 1) (sVar 5))), (sC (.str "] "))]) aNil)))
    (gEx (sMut uAppend (sVar 3) (aCons (sTup (aCons (b2 false dAdd (sVar 5) (sC (.int 1))) (aCons (sC (.str "whole")) (aCons (sVar 7) aNil)))) aNil)))) (gIf (sB (b2 false (dEq false) (sVar 4) (sC (.int (-2))))) (gSeq (gEx (sMut uAppend (sVar 3) (aCons (sTup (aCons (sVar 5) (aCons (sC (.str "argument")) (aCons (sVar 7) aNil)))) aNil)))
    (gEx (sMut uAppend (sVar 3) (aCons (sTup (aCons (sVar 5) (aCons (sC (.str "function")) (aCons (sC (.str " ")) aNil)))) aNil)))) (gIf (sB (sCall 1 (S_is_level) (aCons (sVar 4) aNil))) (gEx (sMut uAppend (sVar 2) (aCons (b2 false dAdd (b2 false dIx (sVar 1) (sVar 4)) (sVar 7)) aNil))) (gEx (sMut uAppend (sVar 2) (aCons (b2 false dAdd (sVar 4) (sVar 7)) aNil))))))))
@[simp] theorem mkT3 {S : Store} {a b c : D} : mkT [.sh a, .sh b, .sh c] S = some (.ok (.sh (.tup [a, b, c])), S) := ev_mkT (xs := [.sh a, .sh b, .sh c]) rfl (le_line (by decide : 3 ≤ 16777216))
section
variable (S : Store) (q : SV) (ws : List (List Nat)) (acc : List (List Nat)) (st : List (Nat × Pl × List Nat)) (d : Nat) (p : Pl) (b : List Nat) (v5 v6 v7 : Option SV)
/-- the frame and the store, ahead of a part -/
abbrev fr (x : Pt) (v5 v6 v7 : Option SV) : Sl := [some q, some (.sh (.lst (wds ws))), some (.cl S.length), some (.cl (S.length + 1)), some (.sh x.d), v5, v6, v7]
abbrev sto (acc : List (List Nat)) (st : List (Nat × Pl × List Nat)) : Store := S ++ [.lst (wls acc), .lst (wts st)]
theorem app_open (h : acc.length < 16777216) (T : Store) : uAppend (wls acc) [.sh (.str "(")] T = some (.sh .non, wls (acc ++ [[40]])) := app_wls (w := [40]) (by rw [sizeLine_val]; exact h)
theorem dAdd_close (h : b.length < 1000000) : dAdd (.str ")") (.str (tx b)) = some (.val (.str (tx (41 :: b)))) := dAdd_ss (a := [41]) (by simp; omega)
/-- a name -/
theorem tstep_w (x : List Nat) (hx : sok x) (h1 : acc.length + 3 < 16777216) (hl : x.length + b.length < 1000000) :
    tBody (fr S q ws (.w x) v5 v6 v7) (sto S acc (st ++ [(d, p, b)])) = some (.nx (fr S q ws (.w x) (some (.sh (.int d))) (some (.sh (.str p.s))) (some (.sh (.str (tx b))))), sto S (acc ++ [x ++ b]) st) := by
  have z : acc.length < sizeLine := by rw [sizeLine_val]; omega
  have en := fun T => needs_eq (.w x) hx p T
  have e1 := dEq_pt false (p := .w x) (q := .i (-1)) hx trivial
  have e2 := dEq_pt false (p := .w x) (q := .i (-2)) hx trivial
  simp only [show (Pt.i (-1)).d = D.int (-1) from rfl, show (Pt.i (-2)).d = D.int (-2) from rfl, show (Pt.w x).d = D.str (tx x) from rfl] at e1 e2 en ⊢
  have ea := dAdd_ss (a := x) (b := b) (by omega)
  simp [tBody, sMut, cellL, pop_wts, tgT, tgCons, tgNil, en, br, e1, e2, is_level_w, ea, app_wls z, Pt.d]
/-- a bound name -/
theorem tstep_v (k : Nat) (w : List Nat) (hw : ws[k]? = some w) (h1 : acc.length + 3 < 16777216) (hl : w.length + b.length < 1000000) :
    tBody (fr S q ws (.i k) v5 v6 v7) (sto S acc (st ++ [(d, p, b)])) = some (.nx (fr S q ws (.i k) (some (.sh (.int d))) (some (.sh (.str p.s))) (some (.sh (.str (tx b))))), sto S (acc ++ [w ++ b]) st) := by
  have z : acc.length < sizeLine := by rw [sizeLine_val]; omega
  have en := fun T => needs_eq (.i k) trivial p T
  have hb : br (.i k) p = false := by
    unfold br
    split
    · rename_i e; injection e with e; omega
    · rename_i e; injection e with e; omega
    · rfl
  have e1 := dEq_pt false (p := .i k) (q := .i (-1)) trivial trivial
  have e2 := dEq_pt false (p := .i k) (q := .i (-2)) trivial trivial
  have n1 : ¬ (Pt.i (k : Int) = .i (-1)) := by intro e; injection e with e; omega
  have n2 : ¬ (Pt.i (k : Int) = .i (-2)) := by intro e; injection e with e; omega
  simp only [show (Pt.i (-1)).d = D.int (-1) from rfl, show (Pt.i (-2)).d = D.int (-2) from rfl, show (Pt.i (k : Int)).d = D.int k from rfl, n1, n2, decide_false] at e1 e2 en ⊢
  have ea := dAdd_ss (a := w) (b := b) (by omega)
  have ei := dIx_wds hw
  have h0 : (0 : Int) ≤ k := Int.natCast_nonneg k
  simp [tBody, sMut, cellL, pop_wts, tgT, tgCons, tgNil, en, hb, e1, e2, is_level_i, ei, ea, app_wls z, Pt.d, h0]
/-- a function -/
theorem tstep_l (w : List Nat) (hw : ws[d]? = some w) (h1 : acc.length + 3 < 16777216) (h2 : st.length + 3 < 16777216) (hl : w.length + b.length < 900000) :
    tBody (fr S q ws (.i (-1)) v5 v6 v7) (sto S acc (st ++ [(d, p, b)])) = some (.nx (fr S q ws (.i (-1)) (some (.sh (.int d))) (some (.sh (.str p.s))) (some (.sh (.str (tx (if p = .whole then b else 41 :: b)))))),
      sto S (acc ++ (if p = .whole then [hpc w] else [[40], hpc w])) (st ++ [(d + 1, .whole, if p = .whole then b else 41 :: b)])) := by
  have z : acc.length < sizeLine := by rw [sizeLine_val]; omega
  have z1 : (acc ++ [[40]]).length < sizeLine := by rw [sizeLine_val]; simp; omega
  have z2 : st.length < sizeLine := by rw [sizeLine_val]; omega
  have en := fun T => needs_eq (.i (-1)) trivial p T
  have e1 := dEq_pt false (p := .i (-1)) (q := .i (-1)) trivial trivial
  simp only [show (Pt.i (-1)).d = D.int (-1) from rfl] at e1 en ⊢
  have ei := dIx_wds hw
  have ed : dAdd (.int d) (.int 1) = some (.val (.int ((d : Int) + 1))) := rfl
  have ej : ∀ (v4 v6' v7' : Option SV) (T : Store), sJoined [sC (.str "["), sFmt (b2 false dIx (sVar 1) (sVar 5)), sC (.str "] ")] [some q, some (.sh (.lst (wds ws))), some (.cl S.length), some (.cl (S.length + 1)), v4, some (.sh (.int d)), v6', v7'] T = some (.ok (.sh (.str (tx (hpc w)))), T) := fun v4 v6' v7' T => joined_eq (by simp [ei]) (by omega)
  have ew : ∀ (b : List Nat) (T : Store), uAppend (wts st) [.sh (.tup [.int ((d : Int) + 1), .str "whole", .str (tx b)])] T = some (.sh .non, wts (st ++ [(d + 1, .whole, b)])) := fun b T => app_wts (d := d + 1) (p := .whole) z2
  by_cases c : p = .whole
  · subst c
    have hb : br (.i (-1)) .whole = false := rfl
    have ep := fun T => app_wls (l := acc) (w := hpc w) (S := T) z
    simp [tBody, sMut, cellL, pop_wts, tgT, tgCons, tgNil, en, hb, e1, ej, Pt.d, ep, ed, ew]
  · have hb : br (.i (-1)) p = true := by simp [br, c]
    have ep := fun T => app_wls (l := acc ++ [[40]]) (w := hpc w) (S := T) z1
    have eo := fun T => app_open acc (by omega) T
    have ec := dAdd_close b (by omega)
    simp [tBody, sMut, cellL, pop_wts, tgT, tgCons, tgNil, en, hb, e1, ej, Pt.d, ep, ed, ew, c, eo, ec]
/-- a put -/
theorem tstep_p (h1 : acc.length + 3 < 16777216) (h2 : st.length + 3 < 16777216) (hl : b.length < 900000) :
    tBody (fr S q ws (.i (-2)) v5 v6 v7) (sto S acc (st ++ [(d, p, b)])) = some (.nx (fr S q ws (.i (-2)) (some (.sh (.int d))) (some (.sh (.str p.s))) (some (.sh (.str (tx (if p = .argument then 41 :: b else b)))))),
      sto S (acc ++ (if p = .argument then [[40]] else [])) (st ++ [(d, .argument, if p = .argument then 41 :: b else b), (d, .function, [32])])) := by
  have z2 : st.length < sizeLine := by rw [sizeLine_val]; omega
  have en := fun T => needs_eq (.i (-2)) trivial p T
  have e1 := dEq_pt false (p := .i (-2)) (q := .i (-1)) trivial trivial
  have e2 := dEq_pt false (p := .i (-2)) (q := .i (-2)) trivial trivial
  simp only [show (Pt.i (-1)).d = D.int (-1) from rfl, show (Pt.i (-2)).d = D.int (-2) from rfl] at e1 e2 en ⊢
  have ew : ∀ (b : List Nat) (T : Store), uAppend (wts st) [.sh (.tup [.int (d : Nat), .str "argument", .str (tx b)])] T = some (.sh .non, wts (st ++ [(d, .argument, b)])) := fun b T => app_wts (p := .argument) z2
  have ev : ∀ (b : List Nat) (T : Store), uAppend (wts (st ++ [(d, .argument, b)])) [.sh (.tup [.int (d : Nat), .str "function", .str " "])] T = some (.sh .non, wts (st ++ [(d, .argument, b), (d, .function, [32])])) := fun b T => by
    have := app_wts (l := st ++ [(d, .argument, b)]) (d := d) (p := .function) (b := [32]) (S := T) (by rw [sizeLine_val]; simp; omega)
    rw [List.append_assoc] at this
    exact this
  by_cases c : p = .argument
  · subst c
    have hb : br (.i (-2)) .argument = true := rfl
    have eo := fun T => app_open acc (by omega) T
    have ec := dAdd_close b (by omega)
    simp [tBody, sMut, cellL, pop_wts, tgT, tgCons, tgNil, en, hb, e1, e2, Pt.d, ew, ev, eo, ec]
  · have hb : br (.i (-2)) p = false := by simp [br, c]
    simp [tBody, sMut, cellL, pop_wts, tgT, tgCons, tgNil, en, hb, e1, e2, Pt.d, ew, ev, c]
end
end Pg

set_option Elab.async false
set_option linter.all false
set_option maxRecDepth 100000
set_option maxHeartbeats 4000000
/-! k04, its mathematics, part i: the text of a term, whole. -/
namespace Pg
open PySem PySem.Spec PyProof.Rows L2 FW FwR
theorem tp_l (wd : Nat → List Nat) (t : Tr) (d : Nat) (p : Pl) (b : List Nat) : tp wd (.l t) d p b = if p = Pl.whole then hpc (wd d) :: tp wd t (d + 1) .whole b else [40] :: hpc (wd d) :: tp wd t (d + 1) .whole (41 :: b) := rfl
theorem tp_p (wd : Nat → List Nat) (a c : Tr) (d : Nat) (p : Pl) (b : List Nat) : tp wd (.p a c) d p b = if p = Pl.argument then [40] :: (tp wd a d .function [32] ++ tp wd c d .argument (41 :: b)) else tp wd a d .function [32] ++ tp wd c d .argument b := rfl
theorem tp_len (wd : Nat → List Nat) : ∀ (t : Tr) (d : Nat) (p : Pl) (b : List Nat), (tp wd t d p b).length ≤ 2 * t.size
  | .n _, _, _, _ => by simp [tp, Tr.size]
  | .v _, _, _, _ => by simp [tp, Tr.size]
  | .l t, d, p, b => by
    have h1 := tp_len wd t (d + 1) .whole b
    have h2 := tp_len wd t (d + 1) .whole (41 :: b)
    rw [tp_l]
    split <;> simp [Tr.size] <;> omega
  | .p a c, d, p, b => by
    have h1 := tp_len wd a d .function [32]
    have h2 := tp_len wd c d .argument b
    have h3 := tp_len wd c d .argument (41 :: b)
    rw [tp_p]
    split <;> simp [Tr.size] <;> omega
theorem tloop (S : Store) (q : SV) (ws : List (List Nat)) (wd : Nat → List Nat) (M : Nat) (hw : ∀ k, k < M → ws[k]? = some (wd k) ∧ (wd k).length ≤ 100000) : ∀ (t : Tr) (d : Nat) (p : Pl) (b : List Nat) (acc : List (List Nat)) (st : List (Nat × Pl × List Nat)) (rest : List D) (v4 v5 v6 v7 : Option SV),
    t.Ok → t.Cl d → t.top d ≤ M → (∀ x ∈ t.free, x.length ≤ 100000) → b.length + t.size ≤ 100000 → acc.length + 2 * t.size + 3 < 16777216 → st.length + t.size + 3 < 16777216 →
    ∃ v4' v5' v6' v7', forL (tgN 4) (tBody) ((t.fl d).map Pt.d ++ rest) [some q, some (.sh (.lst (wds ws))), some (.cl S.length), some (.cl (S.length + 1)), v4, v5, v6, v7] (sto S acc (st ++ [(d, p, b)])) =
      forL (tgN 4) (tBody) rest [some q, some (.sh (.lst (wds ws))), some (.cl S.length), some (.cl (S.length + 1)), v4', v5', v6', v7'] (sto S (acc ++ tp wd t d p b) st)
  | .n x, d, p, b, acc, st, rest, v4, v5, v6, v7, ho, hc, ht, hn, hb, ha, hs => by
    have hx := hn x (by simp [Tr.free])
    have s := tstep_w S q ws acc st d p b v5 v6 v7 x ho (by omega) (by omega)
    exact ⟨_, _, _, _, forL_nx rfl s⟩
  | .v i, d, p, b, acc, st, rest, v4, v5, v6, v7, ho, hc, ht, hn, hb, ha, hs => by
    have hi : i < d := hc
    have hM : d ≤ M := ht
    obtain ⟨h1, h2⟩ := hw (d - 1 - i) (by omega)
    have s := tstep_v S q ws acc st d p b v5 v6 v7 (d - 1 - i) (wd (d - 1 - i)) h1 (by omega) (by omega)
    have e : ((d - 1 - i : Nat) : Int) = (d : Int) - 1 - i := by omega
    rw [e] at s
    exact ⟨_, _, _, _, forL_nx rfl s⟩
  | .l t, d, p, b, acc, st, rest, v4, v5, v6, v7, ho, hc, ht, hn, hb, ha, hs => by
    have hd : d + 1 ≤ M := Nat.le_trans (top_ge t (d + 1)) ht
    obtain ⟨h1, h2⟩ := hw d (by omega)
    simp only [Tr.size] at hb ha hs
    have s := tstep_l S q ws acc st d p b v5 v6 v7 (wd d) h1 (by omega) (by omega) (by omega)
    have hlen : (acc ++ (if p = Pl.whole then [hpc (wd d)] else [[40], hpc (wd d)])).length ≤ acc.length + 2 := by
      rw [List.length_append]; split <;> simp
    have hb2 : (if p = Pl.whole then b else 41 :: b).length ≤ b.length + 1 := by split <;> simp
    obtain ⟨a4, a5, a6, a7, ih⟩ := tloop S q ws wd M hw t (d + 1) .whole (if p = Pl.whole then b else 41 :: b) (acc ++ (if p = Pl.whole then [hpc (wd d)] else [[40], hpc (wd d)])) st rest (some (.sh (Pt.i (-1)).d)) (some (.sh (.int d))) (some (.sh (.str p.s))) (some (.sh (.str (tx (if p = Pl.whole then b else 41 :: b)))))
      ho hc ht hn (by omega) (by omega) (by omega)
    refine ⟨a4, a5, a6, a7, ?_⟩
    have st1 := forL_nx (r := (t.fl (d + 1)).map Pt.d ++ rest) (g := tgN 4) (ss := [some q, some (.sh (.lst (wds ws))), some (.cl S.length), some (.cl (S.length + 1)), v4, v5, v6, v7]) (d := (Pt.i (-1)).d) rfl s
    refine st1.trans (ih.trans ?_)
    have e : acc ++ (if p = Pl.whole then [hpc (wd d)] else [[40], hpc (wd d)]) ++ tp wd t (d + 1) .whole (if p = Pl.whole then b else 41 :: b) = acc ++ tp wd (.l t) d p b := by
      rw [tp_l]
      by_cases c : p = Pl.whole <;> simp [c]
    rw [e]
  | .p a c, d, p, b, acc, st, rest, v4, v5, v6, v7, ho, hc, ht, hn, hb, ha, hs => by
    simp only [Tr.size] at hb ha hs
    have ht1 : a.top d ≤ M := Nat.le_trans (Nat.le_max_left _ _) ht
    have ht2 : c.top d ≤ M := Nat.le_trans (Nat.le_max_right _ _) ht
    have s := tstep_p S q ws acc st d p b v5 v6 v7 (by omega) (by omega) (by omega)
    have hlen : (acc ++ (if p = Pl.argument then [[40]] else [])).length ≤ acc.length + 1 := by
      rw [List.length_append]; split <;> simp
    have hb2 : (if p = Pl.argument then 41 :: b else b).length ≤ b.length + 1 := by split <;> simp
    have htl := tp_len wd a d .function [32]
    obtain ⟨a4, a5, a6, a7, i1⟩ := tloop S q ws wd M hw a d .function [32] (acc ++ (if p = Pl.argument then [[40]] else [])) (st ++ [(d, .argument, if p = Pl.argument then 41 :: b else b)]) ((c.fl d).map Pt.d ++ rest) (some (.sh (Pt.i (-2)).d)) (some (.sh (.int d))) (some (.sh (.str p.s))) (some (.sh (.str (tx (if p = Pl.argument then 41 :: b else b)))))
      ho.1 hc.1 ht1 (fun x hx => hn x (List.mem_append_left _ hx)) (by simp; omega) (by omega) (by simp; omega)
    obtain ⟨c4, c5, c6, c7, i2⟩ := tloop S q ws wd M hw c d .argument (if p = Pl.argument then 41 :: b else b) (acc ++ (if p = Pl.argument then [[40]] else []) ++ tp wd a d .function [32]) st rest a4 a5 a6 a7
      ho.2 hc.2 ht2 (fun x hx => hn x (List.mem_append_right _ hx)) (by omega) (by rw [List.length_append]; omega) (by omega)
    refine ⟨c4, c5, c6, c7, ?_⟩
    have e1 : ((Tr.p a c).fl d).map Pt.d ++ rest = (Pt.i (-2)).d :: ((a.fl d).map Pt.d ++ ((c.fl d).map Pt.d ++ rest)) := by simp [Tr.fl]
    have st1 := forL_nx (r := (a.fl d).map Pt.d ++ ((c.fl d).map Pt.d ++ rest)) (g := tgN 4) (ss := [some q, some (.sh (.lst (wds ws))), some (.cl S.length), some (.cl (S.length + 1)), v4, v5, v6, v7]) (d := (Pt.i (-2)).d) rfl s
    rw [e1]
    refine st1.trans ?_
    have e2 : st ++ [(d, Pl.argument, if p = Pl.argument then 41 :: b else b), (d, Pl.function, [32])] = (st ++ [(d, Pl.argument, if p = Pl.argument then 41 :: b else b)]) ++ [(d, Pl.function, [32])] := by simp
    rw [e2]
    refine i1.trans (i2.trans ?_)
    have e : acc ++ (if p = Pl.argument then [[40]] else []) ++ tp wd a d .function [32] ++ tp wd c d .argument (if p = Pl.argument then 41 :: b else b) = acc ++ tp wd (.p a c) d p b := by
      rw [tp_p]
      by_cases c : p = Pl.argument <;> simp [c]
    rw [e]
/-- the d-th word that is not taken -/
def spw (hd : List (List Nat)) (d : Nat) : List Nat := (nf hd (d + 1 + hd.length)).getD d []
theorem spw_at (hd : List (List Nat)) (d J : Nat) (h : d < (nf hd J).length) : (nf hd J)[d]? = some (spw hd d) := by
  have hg := nf_ge hd (d + 1 + hd.length)
  have hl : d < (nf hd (d + 1 + hd.length)).length := by omega
  have e0 : (nf hd (d + 1 + hd.length))[d]? = some (spw hd d) := by
    unfold spw
    rw [List.getD_eq_getElem?_getD, List.getElem?_eq_getElem hl]; rfl
  rcases Nat.le_total J (d + 1 + hd.length) with q | q
  · obtain ⟨r, e⟩ := nf_pre hd q
    rw [e, List.getElem?_append_left h] at e0
    exact e0
  · obtain ⟨r, e⟩ := nf_pre hd q
    rw [e, List.getElem?_append_left hl]
    exact e0
theorem spw_nth (hd : List (List Nat)) (d : Nat) : ∃ j, j < d + 1 + hd.length ∧ spw hd d = nthW j ∧ nthW j ∉ hd := by
  have hg := nf_ge hd (d + 1 + hd.length)
  have hl : d < (nf hd (d + 1 + hd.length)).length := by omega
  have e := spw_at hd d _ hl
  have hm := List.mem_of_getElem? e
  unfold nf at hm
  rw [List.mem_filter, List.mem_map] at hm
  obtain ⟨⟨j, hj, e1⟩, h2⟩ := hm
  rw [← e1] at h2 ⊢
  exact ⟨j, List.mem_range.mp hj, rfl, by simpa using h2⟩
theorem spw_len (hd : List (List Nat)) (d : Nat) : (spw hd d).length ≤ d + 1 + hd.length := by
  obtain ⟨j, hj, e, _⟩ := spw_nth hd d
  rw [e]
  unfold nthW
  rw [List.length_reverse]
  exact Nat.le_trans (dig_len _) (by omega)
theorem tw_at (t : Tr) (k : Nat) (h : k < t.top 0) : (tw t)[k]? = some (spw t.free k) := by
  unfold tw
  rw [List.getElem?_take_of_lt h]
  exact spw_at _ _ _ (by have := nf_ge t.free (t.top 0 + t.free.length); omega)
/-- what is asked of a term whose text is told -/
structure Fit (t : Tr) (F : List (List Nat)) : Prop where
  ok : t.Ok
  cl : t.Cl 0
  sz : t.size < 1000
  fr : ∀ x ∈ t.free, x ∈ F
  few : F.length < 64
  short : ∀ x ∈ F, x.length ≤ 100
def ptext (t : Tr) : List Nat := (tp (spw t.free) t 0 .whole []).flatten
theorem text_pieces_eq (t : Tr) (F : List (List Nat)) (h : Fit t F) (S : Store) : S_text_pieces [.sh (.tup ((t.fl 0).map Pt.d))] S = some (.ok (.sh (.lst (wds (tp (spw t.free) t 0 .whole [])))), S) := by
  have hsz := h.sz
  have e0 := fun T => told_words_eq t T F h.fr h.few (by omega) h.ok h.cl
  have hfl := free_len t
  have htl := top_le t 0
  obtain ⟨v4, v5, v6, v7, hl⟩ := tloop S (.sh (.tup ((t.fl 0).map Pt.d))) (tw t) (spw t.free) (t.top 0) (fun k hk => ⟨tw_at t k hk, by have := spw_len t.free k; omega⟩) t 0 .whole [] [] [] [] none none none none h.ok h.cl (Nat.le_refl _) (fun x hx => by have := h.short x (h.fr x hx); omega) (by simp; omega) (by simp; omega) (by simp; omega)
  refine runD_lst (T := [.lst (wls (tp (spw t.free) t 0 .whole [])), .lst (wts [])]) (k := 0) ?_ (by simp [wls, wds] <;> rfl)
  have e1 : mkL true [] S = some (.ok (.cl S.length), S ++ [.lst []]) := ev_mkLT (xs := []) (le_line (by decide : 0 ≤ 16777216))
  have e2 : mkL true [.sh (.tup [.int 0, .str "whole", .str ""])] (S ++ [.lst []]) = some (.ok (.cl (S.length + 1)), S ++ [.lst [], .lst [.sh (.tup [.int 0, .str "whole", .str ""])]]) := by
    have := ev_mkLT (S := S ++ [.lst []]) (xs := [.sh (.tup [.int 0, .str "whole", .str ""])]) (le_line (by decide : 1 ≤ 16777216))
    simpa using this
  simp only [List.append_nil, List.nil_append] at hl
  have hl' : forL (tgN 4) (tBody) ((t.fl 0).map Pt.d) [some (.sh (.tup ((t.fl 0).map Pt.d))), some (.sh (.lst (wds (tw t)))), some (.cl S.length), some (.cl (S.length + 1)), none, none, none, none] (S ++ [.lst [], .lst [.sh (.tup [.int 0, .str "whole", .str ""])]]) = some (.nx [some (.sh (.tup ((t.fl 0).map Pt.d))), some (.sh (.lst (wds (tw t)))), some (.cl S.length), some (.cl (S.length + 1)), v4, v5, v6, v7], S ++ [.lst (wls (tp (spw t.free) t 0 .whole [])), .lst (wts [])]) := hl
  unfold tBody at hl'
  simp [B_text_pieces, e0, e1, e2, gFor, itT, hl']
end Pg

set_option Elab.async false
set_option linter.all false
set_option maxRecDepth 100000
set_option maxHeartbeats 4000000
/-! k04, its mathematics, part j: str. -/
namespace Pg
open PySem PySem.Spec PyProof.Rows L2 FW FwR
theorem tp_piece (wd : Nat → List Nat) (W M : Nat) (hw : ∀ k, k < M → (wd k).length ≤ W) : ∀ (t : Tr) (d : Nat) (p : Pl) (b : List Nat), t.Cl d → t.top d ≤ M → (∀ x ∈ t.free, x.length ≤ W) → ∀ y ∈ tp wd t d p b, y.length ≤ W + b.length + t.size + 3
  | .n x, d, p, b, hc, ht, hn, y, hy => by
    have := hn x (by simp [Tr.free])
    simp [tp] at hy; subst hy; simp; omega
  | .v i, d, p, b, hc, ht, hn, y, hy => by
    have hi : i < d := hc
    have hM : d ≤ M := ht
    have := hw (d - 1 - i) (by omega)
    simp [tp] at hy; subst hy; simp; omega
  | .l t, d, p, b, hc, ht, hn, y, hy => by
    have hd : d + 1 ≤ M := Nat.le_trans (top_ge t (d + 1)) ht
    have h1 := hw d (by omega)
    have i1 := fun b => tp_piece wd W M hw t (d + 1) .whole b hc ht hn y
    rw [tp_l] at hy
    simp only [Tr.size]
    have hh : (hpc (wd d)).length ≤ W + 3 := by simp [hpc]; omega
    split at hy
    · rcases List.mem_cons.mp hy with e | e
      · subst e; omega
      · have := i1 b e; omega
    · rcases List.mem_cons.mp hy with e | e
      · subst e; simp
      · rcases List.mem_cons.mp e with e | e
        · subst e; omega
        · have := i1 (41 :: b) e; simp at this; omega
  | .p a c, d, p, b, hc, ht, hn, y, hy => by
    have ht1 : a.top d ≤ M := Nat.le_trans (Nat.le_max_left _ _) ht
    have ht2 : c.top d ≤ M := Nat.le_trans (Nat.le_max_right _ _) ht
    have i1 := tp_piece wd W M hw a d .function [32] hc.1 ht1 (fun x hx => hn x (List.mem_append_left _ hx)) y
    have i2 := fun b => tp_piece wd W M hw c d .argument b hc.2 ht2 (fun x hx => hn x (List.mem_append_right _ hx)) y
    rw [tp_p] at hy
    simp only [Tr.size]
    split at hy
    · rcases List.mem_cons.mp hy with e | e
      · subst e; simp
      · rcases List.mem_append.mp e with e | e
        · have := i1 e; simp at this; omega
        · have := i2 (41 :: b) e; simp at this; omega
    · rcases List.mem_append.mp hy with e | e
      · have := i1 e; simp at this; omega
      · have := i2 b e; omega
theorem sum_le {l : List (List Nat)} {B : Nat} (h : ∀ y ∈ l, y.length ≤ B) : ((l.map tx).map (·.length)).sum ≤ l.length * B := by
  induction l with
  | nil => simp
  | cons a r ih =>
    have h1 := h a List.mem_cons_self
    have h2 := ih fun y hy => h y (List.mem_cons_of_mem _ hy)
    simp only [List.map_cons, List.sum_cons, tx_len, List.length_cons, Nat.add_mul, Nat.one_mul]
    omega
theorem str_eq (t : Tr) (F : List (List Nat)) (h : Fit t F) (S : Store) : S_Term___str__ [.sh (TM t)] S = some (.ok (.sh (.str (tx (ptext t)))), S) := by
  have hsz := h.sz
  have e0 := text_pieces_eq t F h S
  have hfl := free_len t
  have htl := top_le t 0
  have hp := tp_piece (spw t.free) 2100 (t.top 0) (fun k hk => by have := spw_len t.free k; omega) t 0 .whole [] h.cl (Nat.le_refl _) (fun x hx => by have := h.short x (h.fr x hx); omega)
  have hl := tp_len (spw t.free) t 0 .whole []
  have hs := sum_le (B := 3200) (fun y hy => by have := hp y hy; simp at this; omega)
  generalize hq : tp (spw t.free) t 0 .whole [] = ps at *
  have ej : dJoin (.str "") [.lst (wds ps)] = some (.val (.str (tx (ptext t)))) := by
    have es : strsD (wds ps) = some (ps.map tx) := by
      have := strsD_map (ps.map tx)
      rw [List.map_map] at this
      exact this
    have hz : ((ps.map tx).map (·.length)).sum + (ps.map tx).length * (Str.ofString "").length ≤ 16777216 := by
      have h3 : (Str.ofString "").length = 0 := rfl
      rw [h3]
      have : ps.length * 3200 ≤ 2000 * 3200 := Nat.mul_le_mul_right _ (by omega)
      omega
    unfold dJoin
    simp only [seqD, Option.bind_some, es, if_pos hz, join_e]
    rw [ptext, hq]
  refine runD_0 ?_
  have et : fldD "Term" "parts" (.sh (TM t)) S = some (.ok (.sh (.tup ((t.fl 0).map Pt.d))), S) := by simp [TM, tm, tmD]
  have ty : tyM "str" (.str "") = true := by decide
  simp [B_Term___str__, sM, et, e0, ej, ty]
end Pg

set_option Elab.async false
set_option linter.all false
set_option maxRecDepth 100000
set_option maxHeartbeats 4000000
/-! k04, its mathematics, part k: the law's own readings of trees. -/
namespace Pg
open PySem PySem.Spec PyProof.Rows L2 FW FwR
theorem kq (m : Bool) (a b : Str) {r : Bool} (ha : PyData.strOk a = true := by decide +kernel) (hb : PyData.strOk b = true := by decide +kernel) (h : (a == b) = r := by decide +kernel) : dEq m (.str a) (.str b) = some (.val (.bl (m != r))) := by
  rw [dEq_ss m ha hb, h]
@[simp] theorem q_nn : dEq false (.str "n") (.str "n") = some (.val (.bl true)) := kq false _ _ (r := true)
@[simp] theorem q_nl : dEq false (.str "n") (.str "l") = some (.val (.bl false)) := kq false _ _ (r := false)
@[simp] theorem q_np : dEq false (.str "n") (.str "p") = some (.val (.bl false)) := kq false _ _ (r := false)
@[simp] theorem q_nv : dEq false (.str "n") (.str "v") = some (.val (.bl false)) := kq false _ _ (r := false)
@[simp] theorem q_ln : dEq false (.str "l") (.str "n") = some (.val (.bl false)) := kq false _ _ (r := false)
@[simp] theorem q_ll : dEq false (.str "l") (.str "l") = some (.val (.bl true)) := kq false _ _ (r := true)
@[simp] theorem q_lp : dEq false (.str "l") (.str "p") = some (.val (.bl false)) := kq false _ _ (r := false)
@[simp] theorem q_lv : dEq false (.str "l") (.str "v") = some (.val (.bl false)) := kq false _ _ (r := false)
@[simp] theorem q_pn : dEq false (.str "p") (.str "n") = some (.val (.bl false)) := kq false _ _ (r := false)
@[simp] theorem q_pl : dEq false (.str "p") (.str "l") = some (.val (.bl false)) := kq false _ _ (r := false)
@[simp] theorem q_pp : dEq false (.str "p") (.str "p") = some (.val (.bl true)) := kq false _ _ (r := true)
@[simp] theorem q_pv : dEq false (.str "p") (.str "v") = some (.val (.bl false)) := kq false _ _ (r := false)
@[simp] theorem q_vn : dEq false (.str "v") (.str "n") = some (.val (.bl false)) := kq false _ _ (r := false)
@[simp] theorem q_vl : dEq false (.str "v") (.str "l") = some (.val (.bl false)) := kq false _ _ (r := false)
@[simp] theorem q_vp : dEq false (.str "v") (.str "p") = some (.val (.bl false)) := kq false _ _ (r := false)
@[simp] theorem q_vv : dEq false (.str "v") (.str "v") = some (.val (.bl true)) := kq false _ _ (r := true)
@[simp] theorem ix0 {a : D} {r : List D} : dIx (.lst (a :: r)) (.int 0) = some (.val a) := by
  show ((seqD (.lst (a :: r))).bind fun ds => (atI ds (0 : Int)).map An.val) = _
  have : atI (a :: r) (((0 : Nat) : Int)) = some a := atI_nat rfl
  simp only [seqD, Option.bind_some]
  rw [show (0 : Int) = ((0 : Nat) : Int) from rfl, this]; rfl
@[simp] theorem ix1 {a b : D} {r : List D} : dIx (.lst (a :: b :: r)) (.int 1) = some (.val b) := by
  show ((seqD (.lst (a :: b :: r))).bind fun ds => (atI ds (1 : Int)).map An.val) = _
  have : atI (a :: b :: r) (((1 : Nat) : Int)) = some b := atI_nat rfl
  simp only [seqD, Option.bind_some]
  rw [show (1 : Int) = ((1 : Nat) : Int) from rfl, this]; rfl
@[simp] theorem ix2 {a b c : D} {r : List D} : dIx (.lst (a :: b :: c :: r)) (.int 2) = some (.val c) := by
  show ((seqD (.lst (a :: b :: c :: r))).bind fun ds => (atI ds (2 : Int)).map An.val) = _
  have : atI (a :: b :: c :: r) (((2 : Nat) : Int)) = some c := atI_nat rfl
  simp only [seqD, Option.bind_some]
  rw [show (2 : Int) = ((2 : Nat) : Int) from rfl, this]; rfl
def Tr.e : Tr → D
  | .n x => .lst [.str "n", .str (tx x)]
  | .v i => .lst [.str "v", .int i]
  | .l t => .lst [.str "l", t.e]
  | .p a b => .lst [.str "p", a.e, b.e]
def Tr.ht : Tr → Nat
  | .n _ => 0
  | .v _ => 0
  | .l t => t.ht + 1
  | .p a b => max a.ht b.ht + 1
theorem dAdd_ll {a b : List D} (h : a.length + b.length ≤ 16777216) : dAdd (.lst a) (.lst b) = some (.lst (a ++ b)) := by
  show (match dAddS (.lst a) (.lst b) with | some a => some a | none => dAddL (.lst a) (.lst b)) = _
  show (if a.length + b.length ≤ sizeLine then some (An.lst (a ++ b)) else none) = _
  rw [if_pos (le_line h)]
theorem wds_len (l : List (List Nat)) : (wds l).length = l.length := by simp [wds]
theorem wds_app (a b : List (List Nat)) : wds (a ++ b) = wds a ++ wds b := by simp [wds]
theorem law_free_eq : ∀ (t : Tr) (n : Nat) (S : Store), t.ht < n → t.size < 100000 → S__law_free n [.sh t.e] S = some (.ok (.sh (.lst (wds t.free))), S)
  | .n x, n + 1, S, h, hs => runD_0 (by simp [B__law_free, Tr.e, Tr.free, wds])
  | .v i, n + 1, S, h, hs => runD_0 (by simp [B__law_free, Tr.e, Tr.free, wds])
  | .l t, n + 1, S, h, hs => by
    simp only [Tr.ht, Tr.size] at h hs
    have ih := law_free_eq t n S (by omega) (by omega)
    exact runD_0 (by simp [B__law_free, Tr.e, Tr.free, ih])
  | .p a b, n + 1, S, h, hs => by
    simp only [Tr.ht, Tr.size] at h hs
    have i1 := law_free_eq a n S (by omega) (by omega)
    have i2 := law_free_eq b n S (by omega) (by omega)
    have h1 := free_len a
    have h2 := free_len b
    have ea := dAdd_ll (a := wds a.free) (b := wds b.free) (by simp only [wds_len]; omega)
    rw [← wds_app] at ea
    exact runD_0 (by simp [B__law_free, Tr.e, Tr.free, i1, i2, ea])
  | _, 0, _, h, _ => absurd h (Nat.not_lt_zero _)
/-! ### names put in -/
inductive Nm where
  | n (x : List Nat) | p (a b : Nm) | l (x : List Nat) (b : Nm)
def Nm.e : Nm → D
  | .n x => .lst [.str "n", .str (tx x)]
  | .p a b => .lst [.str "p", a.e, b.e]
  | .l x b => .lst [.str "l", .str (tx x), b.e]
def Tr.abs : Tr → List Nat → Nat → Tr
  | .n y, x, k => if y = x then .v k else .n y
  | .v i, _, _ => .v i
  | .l t, x, k => .l (t.abs x (k + 1))
  | .p a b, x, k => .p (a.abs x k) (b.abs x k)
def Nm.tr : Nm → Tr
  | .n x => .n x
  | .p a b => .p a.tr b.tr
  | .l x b => .l (b.tr.abs x 0)
theorem abs_fl (x : List Nat) : ∀ (t : Tr) (k : Nat), t.Cl k → ((t.fl k).map (Pt.up 1)).map (fun p => if p = .w x then .i 0 else p) = (t.abs x k).fl (k + 1)
  | .n y, k, _ => by
    by_cases c : y = x
    · subst c
      simp only [Tr.fl, Tr.abs, if_true, List.map_cons, List.map_nil, Pt.up]
      congr 2
      omega
    · simp [Tr.fl, Tr.abs, Pt.up, c]
  | .v i, k, h => by
    have h' : i < k := h
    have h0 : (0 : Int) ≤ (k : Int) - 1 - i := by omega
    simp only [Tr.fl, Tr.abs, List.map_cons, List.map_nil, Pt.up, if_pos h0]
    rw [if_neg (by simp)]
    congr 2
    omega
  | .l t, k, h => by
    have ih := abs_fl x t (k + 1) h
    simp only [Tr.fl, Tr.abs, List.map_cons, ih]
    rfl
  | .p a b, k, h => by
    simp only [Tr.fl, Tr.abs, List.map_cons, List.map_append, abs_fl x a k h.1, abs_fl x b k h.2]
    rfl
theorem abs_size (x : List Nat) : ∀ (t : Tr) (k : Nat), (t.abs x k).size = t.size
  | .n y, k => by unfold Tr.abs; split <;> rfl
  | .v i, k => rfl
  | .l t, k => by simp [Tr.abs, Tr.size, abs_size x t (k + 1)]
  | .p a b, k => by simp [Tr.abs, Tr.size, abs_size x a k, abs_size x b k]
theorem abs_cl (x : List Nat) : ∀ (t : Tr) (k : Nat), t.Cl k → (t.abs x k).Cl (k + 1)
  | .n y, k, _ => by
    unfold Tr.abs
    split
    · exact Nat.lt_succ_self k
    · trivial
  | .v i, k, h => Nat.lt_succ_of_lt h
  | .l t, k, h => abs_cl x t (k + 1) h
  | .p a b, k, h => ⟨abs_cl x a k h.1, abs_cl x b k h.2⟩
theorem abs_ok (x : List Nat) : ∀ (t : Tr) (k : Nat), t.Ok → (t.abs x k).Ok
  | .n y, k, h => by
    unfold Tr.abs
    split
    · trivial
    · exact h
  | .v i, k, h => trivial
  | .l t, k, h => abs_ok x t (k + 1) h
  | .p a b, k, h => ⟨abs_ok x a k h.1, abs_ok x b k h.2⟩
def Nm.ht : Nm → Nat
  | .n _ => 0
  | .p a b => max a.ht b.ht + 1
  | .l _ b => b.ht + 1
def Nm.Wd : Nm → Prop
  | .n x => Word x
  | .p a b => a.Wd ∧ b.Wd
  | .l x b => Word x ∧ b.Wd
theorem nm_cl : ∀ m : Nm, m.tr.Cl 0
  | .n _ => trivial
  | .p a b => ⟨nm_cl a, nm_cl b⟩
  | .l x b => abs_cl x b.tr 0 (nm_cl b)
theorem nm_ok : ∀ m : Nm, m.Wd → m.tr.Ok
  | .n _, h => h.ok
  | .p a b, h => ⟨nm_ok a h.1, nm_ok b h.2⟩
  | .l x b, h => abs_ok x b.tr 0 (nm_ok b h.2)
theorem law_made_eq : ∀ (m : Nm) (n : Nat) (S : Store), m.ht < n → m.Wd → m.tr.size < 100000 → S__law_made n [.sh m.e] S = some (.ok (.sh (TM m.tr)), S)
  | .n x, n + 1, S, h, hw, hs => by
    have e := name_eq x S hw
    refine runD_0 ?_
    simp [B__law_made, Nm.e, e]
    rfl
  | .p a b, n + 1, S, h, hw, hs => by
    simp only [Nm.ht] at h
    simp only [Nm.tr, Tr.size] at hs
    have i1 := law_made_eq a n S (by omega) hw.1 (by omega)
    have i2 := law_made_eq b n S (by omega) hw.2 (by omega)
    have e := put_eq (a.tr.fl 0) (b.tr.fl 0) S (by simp only [Tr.fl_len]; omega)
    refine runD_0 ?_
    simp only [TM] at i1 i2
    simp [B__law_made, Nm.e, i1, i2, e]
    rfl
  | .l x b, n + 1, S, h, hw, hs => by
    simp only [Nm.ht] at h
    simp only [Nm.tr, Tr.size, abs_size] at hs
    have ih := law_made_eq b n S (by omega) hw.2 (by omega)
    have e := fun_eq x (b.tr.fl 0) S hw.1 (Tr.ok_fl (nm_ok b hw.2)) (by simp only [Tr.fl_len]; omega)
    rw [abs_fl x b.tr 0 (nm_cl b)] at e
    refine runD_0 ?_
    simp only [TM] at ih
    simp [B__law_made, Nm.e, ih, e]
    rfl
  | _, 0, _, h, _, _ => absurd h (Nat.not_lt_zero _)
end Pg

set_option Elab.async false
set_option linter.all false
set_option maxRecDepth 100000
set_option maxHeartbeats 4000000
/-! k04, its mathematics, part l: the law's words and texts. -/
namespace Pg
open PySem PySem.Spec PyProof.Rows L2 FW FwR
def AZ : List Nat := (List.range 26).map fun i => 97 + i
abbrev azS : Str := Str.ofString "abcdefghijklmnopqrstuvwxyz"
theorem az_eq : azS = tx AZ := by rfl
theorem signs_tx (l : List Nat) : FW.signs (tx l) = wds (l.map fun c => [c]) := by
  unfold FW.signs wds
  simp
theorem dig_1 {n : Nat} (h : n < 26) : dig (n + 1) = [97 + n] := by
  rw [dig_s (n + 1) (by omega)]
  simp only [Nat.add_sub_cancel]
  rw [Nat.mod_eq_of_lt h, Nat.div_eq_of_lt h, dig_0]
theorem nthW_1 {n : Nat} (h : n < 26) : nthW n = [97 + n] := by
  unfold nthW; rw [dig_1 h]; rfl
theorem nthW_2 {a b : Nat} (ha : a < 26) (hb : b < 26) : nthW (26 + 26 * a + b) = [97 + a, 97 + b] := by
  unfold nthW
  rw [dig_s _ (by omega)]
  have e1 : (26 + 26 * a + b + 1 - 1) % 26 = b := by omega
  have e2 : (26 + 26 * a + b + 1 - 1) / 26 = a + 1 := by omega
  rw [e1, e2, dig_1 ha]
  rfl
theorem range_add (m n : Nat) : List.range (m + n) = List.range m ++ (List.range n).map (m + ·) := by
  rw [List.range_add]
/-- all words of one and of two letters -/
def WL : List (List Nat) := AZ.map (fun c => [c]) ++ AZ.flatMap fun a => AZ.map fun b => [a, b]
theorem WL_eq : (List.range 702).map nthW = WL := by
  have two : ∀ k, k ≤ 26 → (List.range (26 + 26 * k)).map nthW = AZ.map (fun c => [c]) ++ (List.range k).flatMap fun a => AZ.map fun b => [97 + a, b] := by
    intro k
    induction k with
    | zero =>
      intro _
      simp only [AZ, List.map_map]
      simp
      intro a ha
      rw [nthW_1 ha]
    | succ k ih =>
      intro hk
      have := ih (by omega)
      rw [show 26 + 26 * (k + 1) = (26 + 26 * k) + 26 by omega, range_add, List.map_append, this, (show List.range (k + 1) = List.range k ++ [k] from List.range_succ), List.flatMap_append, List.append_assoc]
      congr 2
      simp only [AZ, List.map_map, List.flatMap_cons, List.flatMap_nil, List.append_nil]
      apply List.map_congr_left
      intro b hb
      exact nthW_2 (by omega) (List.mem_range.mp hb)
  have h := two 26 (Nat.le_refl _)
  rw [show 26 + 26 * 26 = 702 from rfl] at h
  rw [h]
  unfold WL
  congr 1
theorem WL_ok : ∀ w ∈ WL, sok w ∧ w.length ≤ 2 := by
  have : ∀ w ∈ WL, (∀ c ∈ w, c < 0x110000) ∧ w.length ≤ 2 := by decide +kernel
  exact this
theorem inD_wds (w : List Nat) (l : List (List Nat)) : inD (.str (tx w)) (wds l) = decide (w ∈ l) := by
  unfold inD wds
  induction l with
  | nil => rfl
  | cons a r ih =>
    rw [List.map_cons, List.any_cons, ih]
    show ((tx a == tx w) || decide (w ∈ r)) = _
    rw [str_beq]
    by_cases c : a = w
    · subst c; simp
    · have : ¬ w = a := fun e => c e.symm
      simp [c, this]
theorem flat_wds (l : List (List Nat)) : (wds l).all flatD = true := by
  unfold wds
  rw [List.all_map]
  induction l with
  | nil => rfl
  | cons a r ih => rw [List.all_cons, ih]; rfl
theorem dInA_wds (m : Bool) (w : List Nat) (l : List (List Nat)) : dInA m (.str (tx w)) (.lst (wds l)) = some (.val (.bl (m != decide (w ∈ l)))) := by
  have : dIn m (.str (tx w)) (.lst (wds l)) = some (.val (.bl (m != decide (w ∈ l)))) := by
    unfold dIn
    simp only [seqD, flat_wds, inD_wds]
    rfl
  unfold dInA d2
  rw [this]
theorem lcL_filter {vs : List Nat} {g : GM} {t : Sl → MM Bool} {f : Sl → MM SV} {ss : Sl} {S : Store} (T : List Nat → Bool) : ∀ (ws acc : List (List Nat)), (∀ w ∈ ws, ∃ ρ, g (.sh (.str (tx w))) (wipeS ss vs) S = some (ρ, S) ∧ t ρ S = some (.ok (T w), S) ∧ f ρ S = some (.ok (.sh (.str (tx w))), S)) → acc.length + ws.length ≤ sizeLine →
    lcL vs g t f (wds ws) (wds acc) ss S = some (wds (acc ++ ws.filter T), S)
  | [], acc, _, _ => by simp [lcL, wds]
  | w :: ws, acc, h, hl => by
    obtain ⟨ρ, h1, h2, h3⟩ := h w List.mem_cons_self
    have hr := fun x hx => h x (List.mem_cons_of_mem w hx)
    have ha : (wds acc).length < sizeLine := by rw [wds_len]; simp at hl; omega
    show lcL vs g t f (.str (tx w) :: wds ws) (wds acc) ss S = _
    cases c : T w with
    | true =>
      have ih := lcL_filter T ws (acc ++ [w]) hr (by simp at hl ⊢; omega)
      rw [c] at h2
      unfold lcL
      simp only [h1, h2, h3, if_pos ha, cut_self]
      have e : wds acc ++ [D.str (tx w)] = wds (acc ++ [w]) := by simp [wds]
      rw [e, ih, List.filter_cons_of_pos c, List.append_assoc]
      rfl
    | false =>
      have ih := lcL_filter T ws acc hr (by simp at hl ⊢; omega)
      rw [c] at h2
      unfold lcL
      simp only [h1, h2, cut_self]
      rw [ih, List.filter_cons_of_neg (by simp [c])]
theorem cut_nat {ds : List D} (m : Nat) : FW.cutD ds none (some (m : Int)) = ds.take m := by
  unfold FW.cutD
  rw [HT.sIx_none, HT.sIx_nat]
  simp
noncomputable def wLoop : SM := (gAs (b2 false dAdd (sVar 3) (sComp false [5] (itS (sVar 2)) (tgN 5) tYs (b2 false dAdd (sVar 4) (sVar 5)))) (tgN 3))
theorem wloop (q m : SV) (S : Store) : ∀ (xs : List Nat) (acc : List (List Nat)) (v4 v5 v6 : Option SV), acc.length + xs.length * 26 < 100000 →
    ∃ v4' v5' v6', forL (tgN 4) wLoop (wds (xs.map fun c => [c])) [some q, some m, some (.sh (.str azS)), some (.sh (.lst (wds acc))), v4, v5, v6] S = some (.nx [some q, some m, some (.sh (.str azS)), some (.sh (.lst (wds (acc ++ xs.flatMap fun a => AZ.map fun b => [a, b])))), v4', v5', v6'], S)
  | [], acc, v4, v5, v6, _ => ⟨v4, v5, v6, by simp [wds, forL]⟩
  | x :: xs, acc, v4, v5, v6, h => by
    obtain ⟨a4, a5, a6, ih⟩ := wloop q m S xs (acc ++ AZ.map fun b => [x, b]) (some (.sh (.str (tx [x])))) v5 v6 (by simp [AZ] at h ⊢; omega)
    refine ⟨a4, a5, a6, ?_⟩
    have ec : sComp false [5] (itS (sVar 2)) (tgN 5) tYs (b2 false dAdd (sVar 4) (sVar 5)) [some q, some m, some (.sh (.str azS)), some (.sh (.lst (wds acc))), some (.sh (.str (tx [x]))), v5, v6] S = some (.ok (.sh (.lst (wds (AZ.map fun b => [x, b])))), S) := by
      have hm := comp_map (vs := [5]) (it := itS (sVar 2)) (g := tgN 5) (t := tYs) (f := b2 false dAdd (sVar 4) (sVar 5)) (ss := [some q, some m, some (.sh (.str azS)), some (.sh (.lst (wds acc))), some (.sh (.str (tx [x]))), v5, v6]) (S := S) (S1 := S) (ds := wds (AZ.map fun c => [c]))
        (fun d => match d with | .str z => .str (tx [x] ++ z) | d => d) (by simp [itS, az_eq, signs_tx]) (fun d hd => ?_) (by rw [wds_len]; simp [AZ]; rw [sizeLine_val]; decide)
      · have e : (wds (AZ.map fun c => [c])).map (fun d => match d with | .str z => .str (tx [x] ++ z) | d => d) = wds (AZ.map fun b => [x, b]) := by
          unfold wds
          rw [List.map_map, List.map_map, List.map_map]
          apply List.map_congr_left
          intro c _
          show D.str (tx [x] ++ tx [c]) = _
          rw [tx_app]; rfl
        rw [← e]; exact hm
      · unfold wds at hd
        obtain ⟨w, hw, rfl⟩ := List.mem_map.mp hd
        obtain ⟨c, hc, rfl⟩ := List.mem_map.mp hw
        refine ⟨_, rfl, rfl, ?_⟩
        have ea := dAdd_ss (a := [x]) (b := [c]) (by simp)
        rw [← tx_app] at ea
        simp [wipeS, ea]
    have ea := dAdd_ll (a := wds acc) (b := wds (AZ.map fun b => [x, b])) (by simp only [wds_len]; simp [AZ] at h ⊢; omega)
    rw [← wds_app] at ea
    have s : wLoop [some q, some m, some (.sh (.str azS)), some (.sh (.lst (wds acc))), some (.sh (.str (tx [x]))), v5, v6] S = some (.nx [some q, some m, some (.sh (.str azS)), some (.sh (.lst (wds (acc ++ AZ.map fun b => [x, b])))), some (.sh (.str (tx [x]))), v5, v6], S) := by
      simp [wLoop, ec, ea]
    have st1 := forL_nx (r := wds (xs.map fun c => [c])) (g := tgN 4) (ss := [some q, some m, some (.sh (.str azS)), some (.sh (.lst (wds acc))), v4, v5, v6]) (d := .str (tx [x])) rfl s
    have e1 : wds ((x :: xs).map fun c => [c]) = .str (tx [x]) :: wds (xs.map fun c => [c]) := rfl
    rw [e1]
    refine st1.trans (ih.trans ?_)
    simp
theorem law_words_eq (fs : List (List Nat)) (m : Nat) (S : Store) : S__law_words [.sh (.lst (wds fs)), .sh (.int m)] S = some (.ok (.sh (.lst (wds ((nf fs 702).take m)))), S) := by
  obtain ⟨v4, v5, v6, hl⟩ := wloop (.sh (.lst (wds fs))) (.sh (.int m)) S AZ (AZ.map fun c => [c]) none none none (by simp [AZ])
  have eW : (AZ.map fun c => [c]) ++ (AZ.flatMap fun a => AZ.map fun b => [a, b]) = WL := rfl
  rw [eW] at hl
  have e1 : dListS (.str azS) = some (.lst (wds (AZ.map fun c => [c]))) := by
    show (if azS.length ≤ sizeLine then some (An.lst (FW.signs azS)) else none) = _
    rw [az_eq, signs_tx, if_pos (by rw [tx_len]; rw [sizeLine_val]; simp [AZ])]
  have e2 : sComp false [6] (itL (sVar 3)) (tgN 6) (sB (b2 false (dInA true) (sVar 6) (sVar 0))) (sVar 6) [some (.sh (.lst (wds fs))), some (.sh (.int m)), some (.sh (.str azS)), some (.sh (.lst (wds WL))), v4, v5, v6] S = some (.ok (.sh (.lst (wds (nf fs 702)))), S) := by
    have := lcL_filter (vs := [6]) (g := tgN 6) (t := sB (b2 false (dInA true) (sVar 6) (sVar 0))) (f := sVar 6) (ss := [some (.sh (.lst (wds fs))), some (.sh (.int m)), some (.sh (.str azS)), some (.sh (.lst (wds WL))), v4, v5, v6]) (S := S) (fun w => !decide (w ∈ fs)) WL [] (fun w _ => ⟨_, rfl, by simp [wipeS, dInA_wds], by simp [wipeS]⟩) (by
        have : WL.length = 702 := by decide +kernel
        rw [this, sizeLine_val]; decide)
    rw [List.nil_append] at this
    unfold sComp
    have hn : WL.filter (fun w => !decide (w ∈ fs)) = nf fs 702 := by unfold nf; rw [WL_eq]
    rw [hn] at this
    simp only [wds, List.map_nil] at this ⊢
    simp [itL, frz, this, FW.alloc]
  have e3 : dSl none (some (m : Int)) (.lst (wds (nf fs 702))) = some (.lst (wds ((nf fs 702).take m))) := by
    show some (An.lst (FW.cutD _ _ _)) = _
    rw [cut_nat]
    simp [wds]
  refine runD_0 ?_
  unfold wLoop at hl
  have hl' : forL (tgN 4) (gAs (b2 false dAdd (sVar 3) (sComp false [5] (itS (sVar 2)) (tgN 5) tYs (b2 false dAdd (sVar 4) (sVar 5)))) (tgN 3)) (FW.signs azS) [some (.sh (.lst (wds fs))), some (.sh (.int m)), some (.sh (.str azS)), some (.sh (.lst (wds (AZ.map fun c => [c])))), none, none, none] S = some (.nx [some (.sh (.lst (wds fs))), some (.sh (.int m)), some (.sh (.str azS)), some (.sh (.lst (wds WL))), v4, v5, v6], S) := by
    rw [az_eq, signs_tx, ← az_eq]; exact hl
  simp [B__law_words, on1, e1, gFor, itS, hl', e2, bSl, oN, oS, s1, e3]
end Pg

set_option Elab.async false
set_option linter.all false
set_option maxRecDepth 100000
set_option maxHeartbeats 4000000
/-! k04, its mathematics, part m: the law's text is the term's. -/
namespace Pg
open PySem PySem.Spec PyProof.Rows L2 FW FwR
def Tr.isL : Tr → Bool
  | .l _ => true
  | _ => false
def Tr.isLP : Tr → Bool
  | .l _ => true
  | .p _ _ => true
  | _ => false
def par (b : Bool) (x : List Nat) : List Nat := if b = true then [40] ++ x ++ [41] else x
def wr (wd : Nat → List Nat) : Tr → Nat → List Nat
  | .n x, _ => x
  | .v i, d => wd (d - 1 - i)
  | .l t, d => [91] ++ wd d ++ [93, 32] ++ wr wd t (d + 1)
  | .p a b, d => par a.isL (wr wd a d) ++ [32] ++ par b.isLP (wr wd b d)
theorem par_len (b : Bool) (x : List Nat) : (par b x).length ≤ x.length + 2 := by
  unfold par; split <;> simp
theorem wr_len (wd : Nat → List Nat) (W M : Nat) (hw : ∀ k, k < M → (wd k).length ≤ W) : ∀ (t : Tr) (d : Nat), t.Cl d → t.top d ≤ M → (∀ x ∈ t.free, x.length ≤ W) → (wr wd t d).length ≤ t.size * (W + 10)
  | .n x, d, hc, ht, hn => by
    have := hn x (by simp [Tr.free])
    simp [wr, Tr.size]; omega
  | .v i, d, hc, ht, hn => by
    have hi : i < d := hc
    have hM : d ≤ M := ht
    have := hw (d - 1 - i) (by omega)
    simp [wr, Tr.size]; omega
  | .l t, d, hc, ht, hn => by
    have hd : d + 1 ≤ M := Nat.le_trans (top_ge t (d + 1)) ht
    have h1 := hw d (by omega)
    have := wr_len wd W M hw t (d + 1) hc ht hn
    simp only [wr, Tr.size, Nat.add_mul, Nat.one_mul, List.length_append, List.length_cons, List.length_nil]
    omega
  | .p a b, d, hc, ht, hn => by
    have h1 := wr_len wd W M hw a d hc.1 (Nat.le_trans (Nat.le_max_left _ _) ht) (fun x hx => hn x (List.mem_append_left _ hx))
    have h2 := wr_len wd W M hw b d hc.2 (Nat.le_trans (Nat.le_max_right _ _) ht) (fun x hx => hn x (List.mem_append_right _ hx))
    have h3 := par_len a.isL (wr wd a d)
    have h4 := par_len b.isLP (wr wd b d)
    simp only [wr, Tr.size, Nat.add_mul, Nat.one_mul, List.length_append, List.length_cons, List.length_nil]
    omega
/-- the term's pieces, put together -/
def bro : Tr → Pl → Bool
  | .l _, p => decide (p ≠ .whole)
  | .p _ _, p => decide (p = .argument)
  | _, _ => false
theorem tp_wr (wd : Nat → List Nat) : ∀ (t : Tr) (d : Nat) (p : Pl) (b : List Nat), (tp wd t d p b).flatten = par (bro t p) (wr wd t d) ++ b
  | .n x, d, p, b => by simp [tp, wr, bro, par]
  | .v i, d, p, b => by simp [tp, wr, bro, par]
  | .l t, d, p, b => by
    have i := fun b => tp_wr wd t (d + 1) .whole b
    have hb : ∀ b, par (bro t .whole) b = b := fun b => by
      cases t <;> simp [bro, par]
    simp only [hb] at i
    rw [tp_l]
    by_cases c : p = .whole
    · simp [c, bro, par, wr, i, hpc]
    · simp [c, bro, par, wr, i, hpc]
  | .p a e, d, p, b => by
    have i1 := tp_wr wd a d .function [32]
    have i2 := fun b => tp_wr wd e d .argument b
    have h1 : bro a .function = a.isL := by cases a <;> simp [bro, Tr.isL]
    have h2 : bro e .argument = e.isLP := by cases e <;> simp [bro, Tr.isLP]
    rw [h1] at i1
    simp only [h2] at i2
    rw [tp_p]
    by_cases c : p = .argument
    · simp [c, bro, wr, i1, i2]
      simp [par]
    · simp [c, bro, wr, i1, i2]
      simp [par]
theorem ptext_wr (t : Tr) : ptext t = wr (spw t.free) t 0 := by
  unfold ptext
  rw [tp_wr]
  have : bro t .whole = false := by cases t <;> simp [bro]
  rw [this]
  simp [par]
/-! ### as the law writes it -/
def Tr.kd : Tr → Str
  | .n _ => "n"
  | .v _ => "v"
  | .l _ => "l"
  | .p _ _ => "p"
theorem kd_ix (t : Tr) : dIx t.e (.int 0) = some (.val (.str t.kd)) := by cases t <;> simp [Tr.e, Tr.kd]
theorem kd_l (t : Tr) : dEq false (.str t.kd) (.str "l") = some (.val (.bl t.isL)) := by cases t <;> simp [Tr.kd, Tr.isL]
theorem kd_lp (t : Tr) : dInA false (.str t.kd) (.lst [.str "l", .str "p"]) = some (.val (.bl t.isLP)) := by
  have h := dInA_wds false
  have e : ([.str "l", .str "p"] : List D) = wds [[108], [112]] := rfl
  rw [e]
  cases t
  · exact h [110] [[108], [112]]
  · exact h [118] [[108], [112]]
  · exact h [108] [[108], [112]]
  · exact h [112] [[108], [112]]
theorem par_ix (b : Bool) (x y : D) : ∃ i, dInt (.bl b) = some (.val (.int i)) ∧ dIx (.lst [x, y]) (.int i) = some (.val (if b = true then y else x)) := by
  cases b
  · exact ⟨0, rfl, by simp⟩
  · exact ⟨1, rfl, by simp⟩
theorem law_written_eq (ws : List (List Nat)) (wd : Nat → List Nat) (M : Nat) (hw : ∀ k, k < M → ws[k]? = some (wd k) ∧ (wd k).length ≤ 2100) : ∀ (t : Tr) (n d : Nat) (S : Store), t.ht < n → t.Cl d → t.top d ≤ M → (∀ x ∈ t.free, x.length ≤ 2100) → t.size < 1000 →
    S__law_written n [.sh t.e, .sh (.lst (wds ws)), .sh (.int d)] S = some (.ok (.sh (.str (tx (wr wd t d)))), S)
  | .n x, n + 1, d, S, h, hc, ht, hn, hs => runD_0 (by simp [B__law_written, Tr.e, wr])
  | .v i, n + 1, d, S, h, hc, ht, hn, hs => by
    have hi : i < d := hc
    have hM : d ≤ M := ht
    have ei := dIx_wds (hw (d - 1 - i) (by omega)).1
    have e : ((d - 1 - i : Nat) : Int) = (d : Int) - 1 - i := by omega
    rw [e] at ei
    exact runD_0 (by simp [B__law_written, Tr.e, wr, dI, ei])
  | .l t, n + 1, d, S, h, hc, ht, hn, hs => by
    have hd : d + 1 ≤ M := Nat.le_trans (top_ge t (d + 1)) ht
    obtain ⟨h1, h2⟩ := hw d (by omega)
    simp only [Tr.ht, Tr.size] at h hs
    have ih := law_written_eq ws wd M hw t n (d + 1) S (by omega) hc ht hn (by omega)
    have hl := wr_len wd 2100 M (fun k hk => (hw k hk).2) t (d + 1) hc ht hn
    have hb : t.size * (2100 + 10) ≤ 1000 * (2100 + 10) := Nat.mul_le_mul_right _ (by omega)
    have ei := dIx_wds h1
    have a1 : dAdd (.str "[") (.str (tx (wd d))) = some (.val (.str (tx ([91] ++ wd d)))) := dAdd_ss (a := [91]) (by simp; omega)
    have a2 : dAdd (.str (tx ([91] ++ wd d))) (.str "] ") = some (.val (.str (tx ([91] ++ wd d ++ [93, 32])))) := dAdd_ss (b := [93, 32]) (by simp; omega)
    have a3 := dAdd_ss (a := [91] ++ wd d ++ [93, 32]) (b := wr wd t (d + 1)) (by simp; omega)
    have ed : dAdd (.int d) (.int 1) = some (.val (.int ((d : Int) + 1))) := rfl
    have ih' : S__law_written n [.sh t.e, .sh (.lst (wds ws)), .sh (.int ((d : Int) + 1))] S = some (.ok (.sh (.str (tx (wr wd t (d + 1))))), S) := ih
    refine runD_0 ?_
    have e9 : wr wd (.l t) d = [91] ++ wd d ++ [93, 32] ++ wr wd t (d + 1) := rfl
    rw [e9]
    generalize [91] ++ wd d ++ [93, 32] ++ wr wd t (d + 1) = z3 at a3 ⊢
    generalize [91] ++ wd d ++ [93, 32] = z2 at a2 a3
    generalize [91] ++ wd d = z1 at a1 a2
    simp [B__law_written, Tr.e, ei, a1, a2, a3, ed, ih']
  | .p a b, n + 1, d, S, h, hc, ht, hn, hs => by
    simp only [Tr.ht, Tr.size] at h hs
    have ha := fun x hx => hn x (List.mem_append_left _ hx)
    have hb := fun x hx => hn x (List.mem_append_right _ hx)
    have t1 := Nat.le_trans (Nat.le_max_left (a.top d) (b.top d)) ht
    have t2 := Nat.le_trans (Nat.le_max_right (a.top d) (b.top d)) ht
    have i1 := law_written_eq ws wd M hw a n d S (by omega) hc.1 t1 ha (by omega)
    have i2 := law_written_eq ws wd M hw b n d S (by omega) hc.2 t2 hb (by omega)
    have l1 := wr_len wd 2100 M (fun k hk => (hw k hk).2) a d hc.1 t1 ha
    have l2 := wr_len wd 2100 M (fun k hk => (hw k hk).2) b d hc.2 t2 hb
    have b1 : a.size * (2100 + 10) ≤ 1000 * (2100 + 10) := Nat.mul_le_mul_right _ (by omega)
    have b2 : b.size * (2100 + 10) ≤ 1000 * (2100 + 10) := Nat.mul_le_mul_right _ (by omega)
    have e9 : wr wd (.p a b) d = par a.isL (wr wd a d) ++ [32] ++ par b.isLP (wr wd b d) := rfl
    rw [e9]
    generalize wr wd a d = x at i1 l1 ⊢
    generalize wr wd b d = y at i2 l2 ⊢
    have hp : ∀ z : List Nat, z.length ≤ 3000000 → ∃ z1, dAdd (.str "(") (.str (tx z)) = some (.val (.str (tx z1))) ∧ dAdd (.str (tx z1)) (.str ")") = some (.val (.str (tx ([40] ++ z ++ [41])))) := fun z hz =>
      ⟨[40] ++ z, dAdd_ss (a := [40]) (by simp; omega), dAdd_ss (b := [41]) (by simp; omega)⟩
    obtain ⟨x1, p1, p2⟩ := hp x (by omega)
    obtain ⟨y1, p3, p4⟩ := hp y (by omega)
    obtain ⟨ia, ga, gb⟩ := par_ix a.isL (.str (tx x)) (.str (tx ([40] ++ x ++ [41])))
    obtain ⟨ib, gc, gd⟩ := par_ix b.isLP (.str (tx y)) (.str (tx ([40] ++ y ++ [41])))
    have ex : (if a.isL = true then D.str (tx ([40] ++ x ++ [41])) else .str (tx x)) = .str (tx (par a.isL x)) := by unfold par; split <;> rfl
    have ey : (if b.isLP = true then D.str (tx ([40] ++ y ++ [41])) else .str (tx y)) = .str (tx (par b.isLP y)) := by unfold par; split <;> rfl
    rw [ex] at gb
    rw [ey] at gd
    have m1 := par_len a.isL x
    have m2 := par_len b.isLP y
    generalize par a.isL x = px at gb m1 ⊢
    generalize par b.isLP y = py at gd m2 ⊢
    generalize [40] ++ x ++ [41] = x2 at p2 gb
    generalize [40] ++ y ++ [41] = y2 at p4 gd
    have s1 : dAdd (.str (tx px)) (.str " ") = some (.val (.str (tx (px ++ [32])))) := dAdd_ss (b := [32]) (by simp; omega)
    have s2 := dAdd_ss (a := px ++ [32]) (b := py) (by simp; omega)
    generalize px ++ [32] ++ py = z2 at s2 ⊢
    generalize px ++ [32] = z1 at s1 s2
    refine runD_0 ?_
    simp [B__law_written, Tr.e, i1, i2, p1, p2, p3, p4, on1, kd_ix, kd_l, kd_lp, ga, gb, gc, gd, s1, s2]
  | _, 0, _, _, h, _, _, _, _ => absurd h (Nat.not_lt_zero _)
theorem nf_geF (hd F : List (List Nat)) (hF : ∀ x ∈ hd, x ∈ F) (j : Nat) : j ≤ (nf hd j).length + F.length := by
  have h := nf_ge F j
  have : (nf F j).length ≤ (nf hd j).length := by
    unfold nf
    generalize (List.range j).map nthW = V
    induction V with
    | nil => simp
    | cons a V ih =>
      by_cases c1 : a ∈ hd
      · have c2 := hF a c1
        simp [c1, c2]; exact ih
      · by_cases c2 : a ∈ F
        · simp [c1, c2]; omega
        · simp [c1, c2]; exact ih
  omega
theorem top_ht : ∀ (t : Tr) (d : Nat), t.top d ≤ d + t.ht
  | .n x, d => by simp [Tr.top]
  | .v i, d => by simp [Tr.top]
  | .l t, d => by have := top_ht t (d + 1); simp [Tr.top, Tr.ht] at this ⊢; omega
  | .p a b, d => by have := top_ht a d; have := top_ht b d; simp [Tr.top, Tr.ht] at *; omega
theorem law_text_eq (t : Tr) (F : List (List Nat)) (hf : Fit t F) (h : t.ht < 40) (S : Store) : S__law_text [.sh t.e] S = some (.ok (.sh (.str (tx (ptext t)))), S) := by
  have hsz := hf.sz
  have hfl := free_len t
  have htop := top_ht t 0
  have e1 := law_free_eq t 40 S h (by omega)
  have e2 := law_words_eq t.free 90 S
  have hg := nf_geF t.free F hf.fr 702
  have hfew := hf.few
  have e3 := law_written_eq ((nf t.free 702).take 90) (spw t.free) 40 (fun k hk => ⟨by
    rw [List.getElem?_take_of_lt (by omega)]
    exact spw_at _ _ _ (by omega), by have := spw_len t.free k; omega⟩) t 40 0 S h hf.cl (by omega) (fun x hx => by have := hf.short x (hf.fr x hx); omega) hsz
  rw [← ptext_wr] at e3
  have e2' : S__law_words [.sh (.lst (wds t.free)), .sh (.int 90)] S = some (.ok (.sh (.lst (wds ((nf t.free 702).take 90)))), S) := e2
  have e3' : S__law_written 40 [.sh t.e, .sh (.lst (wds ((nf t.free 702).take 90))), .sh (.int 0)] S = some (.ok (.sh (.str (tx (ptext t)))), S) := e3
  refine runD_0 ?_
  simp [B__law_text, e1, e2', e3']
end Pg

set_option Elab.async false
set_option linter.all false
set_option maxRecDepth 100000
set_option maxHeartbeats 4000000
/-! k04, its mathematics, part n: what is drawn. -/
namespace Pg
open PySem PySem.Spec PyProof.Rows L2 FW FwR
theorem cMul_ok {i j : Int} (hi : i.natAbs < 2 ^ 400) (hj : j.natAbs < 2 ^ 400) : cMul i j = true := by
  have lg : ∀ n : Nat, n < 2 ^ 400 → n.log2 < 400 := fun n h => by
    by_cases h0 : n = 0
    · subst h0; decide
    · exact (Nat.log2_lt h0).mpr h
  unfold cMul
  have a := lg _ hi
  have b := lg _ hj
  exact decide_eq_true (by omega)
theorem mul_ok {i j : Int} (hi : i.natAbs < 2 ^ 400) (hj : j.natAbs < 2 ^ 400) : dI cMul (fun i j => i * j) (.int i) (.int j) = some (.val (.int (i * j))) := if_pos (cMul_ok hi hj)
theorem mod_ok {i j : Int} (h : 0 < j) : dI cMod (fun i j => i % j) (.int i) (.int j) = some (.val (.int (i % j))) := if_pos (decide_eq_true h)
theorem p10_18 : dI cPow (fun i j => i ^ j.toNat) (.int 10) (.int 18) = some (.val (.int 1000000000000000000)) := by
  show (if cPow 10 18 = true then some (An.val (D.int ((10 : Int) ^ (18 : Int).toNat))) else none) = _
  rw [if_pos (by decide +kernel)]; rfl
theorem p10_60 : dI cPow (fun i j => i ^ j.toNat) (.int 10) (.int 60) = some (.val (.int 1000000000000000000000000000000000000000000000000000000000000)) := by
  show (if cPow 10 60 = true then some (An.val (D.int ((10 : Int) ^ (60 : Int).toNat))) else none) = _
  rw [if_pos (by decide +kernel)]; rfl
theorem p10_600 : dI cPow (fun i j => i ^ j.toNat) (.int 1000000000000000000000000000000000000000000000000000000000000) (.int 10) = some (.val (.int (1000000000000000000000000000000000000000000000000000000000000 ^ 10))) := by
  show (if cPow 1000000000000000000000000000000000000000000000000000000000000 10 = true then some (An.val (D.int ((1000000000000000000000000000000000000000000000000000000000000 : Int) ^ (10 : Int).toNat))) else none) = _
  rw [if_pos (by decide +kernel)]; rfl
abbrev mM : Int := 1000000000000000000000000000000000000000000000000000000000007
theorem mixed_eq (cell k : Int) (hk : k.natAbs < 2 ^ 70) (S : Store) : ∃ r : Int, 0 ≤ r ∧ r < mM ∧ S__law_mixed [.sh (.int cell), .sh (.int k)] S = some (.ok (.sh (.int r)), S) := by
  have c1 : dAdd (.int 1000000000000000000) (.int 9) = some (.val (.int 1000000000000000009)) := rfl
  have c2 : dAdd (.int 1000000000000000000000000000000000000000000000000000000000000) (.int 7) = some (.val (.int mM)) := rfl
  have e1 := mod_ok (i := cell) (j := 1000000000000000009) (by decide)
  have b1 : 0 ≤ cell % 1000000000000000009 := Int.emod_nonneg _ (by decide)
  have b2 : cell % 1000000000000000009 < 1000000000000000009 := Int.emod_lt_of_pos _ (by decide)
  generalize cell % 1000000000000000009 = a at e1 b1 b2
  have e2 := mul_ok (i := 7) (j := k) (by decide) (by omega)
  have e3 := dAdd_ii a (7 * k)
  have b3 : (a + 7 * k).natAbs < 2 ^ 80 := by omega
  generalize a + 7 * k = x at e3 b3
  have e4 := mul_ok (i := x) (j := 739108512309184756019283746561) (by omega) (by decide)
  have e5 := mul_ok (i := 7919) (j := k) (by decide) (by omega)
  have e6 := dAdd_ii (x * 739108512309184756019283746561) (7919 * k)
  have e7 := dAdd_ii (x * 739108512309184756019283746561 + 7919 * k) 1
  have b4 : (x * 739108512309184756019283746561 + 7919 * k + 1).natAbs < 2 ^ 300 := by omega
  generalize x * 739108512309184756019283746561 + 7919 * k + 1 = y at e7 b4
  have e8 := mul_ok (i := y) (j := y) (by omega) (by omega)
  have e9 := mod_ok (i := y * y) (j := mM) (by decide)
  have b5 : 0 ≤ (y * y) % mM := Int.emod_nonneg _ (by decide)
  have b6 : (y * y) % mM < mM := Int.emod_lt_of_pos _ (by decide)
  generalize (y * y) % mM = z at e9 b5 b6
  have b7 : z < 1000000000000000000000000000000000000000000000000000000000007 := b6
  have f1 := dAdd_ii z 40503
  have f2 := dAdd_ii z 57
  have f3 := mul_ok (i := z + 40503) (j := z + 57) (by omega) (by omega)
  have f4 := mod_ok (i := (z + 40503) * (z + 57)) (j := mM) (by decide)
  refine ⟨((z + 40503) * (z + 57)) % mM, Int.emod_nonneg _ (by decide), Int.emod_lt_of_pos _ (by decide), runD_0 ?_⟩
  generalize ((z + 40503) * (z + 57)) % mM = r at f4
  generalize (z + 40503) * (z + 57) = z3 at f3 f4
  generalize z + 40503 = z1 at f1 f3
  generalize z + 57 = z2 at f2 f3
  generalize y * y = y2 at e8 e9
  generalize x * 739108512309184756019283746561 + 7919 * k = y1 at e6 e7
  generalize x * 739108512309184756019283746561 = x1 at e4 e6
  generalize 7919 * k = k2 at e5 e6
  generalize 7 * k = k1 at e2 e3
  simp [B__law_mixed, p10_18, p10_60, c1, c2, e1, e2, e3, e4, e5, e6, e7, e8, e9, f1, f2, f3, f4]
/-! ### the purse, a list that is changed -/
structure Pu where
  a : Int
  b : Int
  c : Int
def Pu.m (P : Pu) : MO := .lst [.sh (.int P.a), .sh (.int P.b), .sh (.int P.c)]
/-- few have been drawn so far -/
def Pu.Fw (P : Pu) (n : Nat) : Prop := 0 ≤ P.b ∧ P.b ≤ n
theorem pu_flat (P : Pu) : flat P.m := by
  intro x hx
  simp at hx
  rcases hx with e | e | e <;> subst e <;> trivial
theorem pu_look {S : Store} {k : Nat} {P : Pu} (h : S[k]? = some P.m) : lookD S (.cl k) = some (.lst [.int P.a, .int P.b, .int P.c]) := by
  simp [lookD, h, Pu.m]
theorem lt_of_get {S : Store} {k : Nat} {m : MO} (h : S[k]? = some m) : k < S.length := (List.getElem?_eq_some_iff.mp h).1
theorem get_set {S : Store} {k : Nat} {m m' : MO} (h : S[k]? = some m) : (S.set k m')[k]? = some m' := List.getElem?_set_self (lt_of_get h)
theorem setI_0 {S : Store} {k : Nat} {P : Pu} (h : S[k]? = some P.m) (v : Int) : setI (.cl k) (.sh (.int 0)) (.sh (.int v)) S = some (S.set k (Pu.mk v P.b P.c).m) := by
  have : ixN 3 0 = some 0 := rfl
  simp [setI, h, Pu.m, this]
theorem setI_1 {S : Store} {k : Nat} {P : Pu} (h : S[k]? = some P.m) (v : Int) : setI (.cl k) (.sh (.int 1)) (.sh (.int v)) S = some (S.set k (Pu.mk P.a v P.c).m) := by
  have : ixN 3 1 = some 1 := rfl
  simp [setI, h, Pu.m, this]
theorem take_eq {S : Store} {k n : Nat} {P : Pu} (h : S[k]? = some P.m) (hf : P.Fw n) (hn : n < 2 ^ 60) (many : Int) (h0 : 0 < many) (h1 : many < 1000) :
    ∃ (r : Int) (P' : Pu), 0 ≤ r ∧ r < many ∧ P'.Fw (n + 1) ∧ S__law_take [.cl k, .sh (.int many)] S = some (.ok (.sh (.int r)), S.set k P'.m) := by
  obtain ⟨q0, q1, q2⟩ := P
  obtain ⟨f1, f2⟩ := hf
  simp only at f1 f2
  have dv : ∀ i : Int, dI cDiv (fun i j => i / j) (.int i) (.int many) = some (.val (.int (i / many))) := fun i => by
    refine if_pos (decide_eq_true ⟨h0, ?_⟩)
    have : many.natAbs < 2 ^ 400 := by omega
    have := (Nat.log2_lt (by omega : many.natAbs ≠ 0)).mpr this
    omega
  by_cases c : q0 < many
  · have e1 : dLt (.int q0) (.int many) = some (.val (.bl true)) := by
      show some (An.val (D.bl (decide (q0 < many)))) = _
      rw [decide_eq_true c]
    have e2 := dAdd_ii q1 1
    have hS1 : (S.set k (Pu.mk q0 (q1 + 1) q2).m)[k]? = some (Pu.mk q0 (q1 + 1) q2).m := get_set h
    have e3 := mul_ok (i := 11) (j := q1 + 1) (by decide) (by omega)
    have e4 := dAdd_ii (11 * (q1 + 1)) 5
    obtain ⟨r, r0, r1, er⟩ := mixed_eq q2 (11 * (q1 + 1) + 5) (by omega) (S.set k (Pu.mk q0 (q1 + 1) q2).m)
    have r2 : r < 1000000000000000000000000000000000000000000000000000000000007 := r1
    have e5 := mul_ok (i := many) (j := r) (by omega) (by omega)
    have e6 := dAdd_ii q0 (many * r)
    generalize hm : many * r = mr at e5 e6
    have hS2 : (S.set k (Pu.mk (q0 + mr) (q1 + 1) q2).m)[k]? = some (Pu.mk (q0 + mr) (q1 + 1) q2).m := get_set h
    have e7 := mod_ok (i := q0 + mr) (j := many) h0
    refine ⟨(q0 + mr) % many, ⟨(q0 + mr) / many, q1 + 1, q2⟩, Int.emod_nonneg _ (by omega), Int.emod_lt_of_pos _ h0, ⟨by simp only; omega, by simp only; omega⟩, ?_⟩
    refine runD_sh ?_ (cut_set' S k (pu_flat _))
    have hd := dv (q0 + mr)
    generalize 11 * (q1 + 1) + 5 = k2 at e4 er
    generalize 11 * (q1 + 1) = k1 at e3 e4
    generalize q1 + 1 = q3 at *
    generalize q0 + mr = q4 at *
    simp [B__law_take, pu_look h, e1, e2, tgI, setI_1 h, pu_look hS1, e3, e4, er, e5, e6, setI_0 hS1, pu_look hS2, e7, hd, setI_0 hS2]
  · have e1 : dLt (.int q0) (.int many) = some (.val (.bl false)) := by
      show some (An.val (D.bl (decide (q0 < many)))) = _
      rw [decide_eq_false c]
    have e7 := mod_ok (i := q0) (j := many) h0
    have hd := dv q0
    refine ⟨q0 % many, ⟨q0 / many, q1, q2⟩, Int.emod_nonneg _ (by omega), Int.emod_lt_of_pos _ h0, ⟨by simp only; omega, by simp only; omega⟩, ?_⟩
    refine runD_sh ?_ (cut_set' S k (pu_flat _))
    simp [B__law_take, pu_look h, e1, e7, hd, tgI, setI_0 h]
end Pg

set_option Elab.async false
set_option linter.all false
set_option maxRecDepth 100000
set_option maxHeartbeats 4000000
set_option exponentiation.threshold 1000
/-! k04, its mathematics, part o: trees that are drawn. -/
namespace Pg
open PySem PySem.Spec PyProof.Rows L2 FW FwR
theorem Pu.Fw.mono {P : Pu} {n m : Nat} (h : P.Fw n) (l : n ≤ m) : P.Fw m := ⟨h.1, by have := h.2; omega⟩
theorem set_same {S : Store} {k : Nat} {m : MO} (h : S[k]? = some m) : S.set k m = S := by
  apply List.ext_getElem?
  intro j
  by_cases e : k = j
  · subst e; rw [List.getElem?_set_self (lt_of_get h), h]
  · rw [List.getElem?_set_ne e]
theorem purse_eq (cell : Int) (k : Nat) (hk : k < 1000) (S : Store) : ∃ P : Pu, P.Fw 0 ∧ S__law_purse [.sh (.int cell), .sh (.int k)] S = some (.ok (.cl S.length), S ++ [P.m]) := by
  have key : ∀ P : Pu, B__law_purse [some (.sh (.int cell)), some (.sh (.int k))] S = some (.rt (.cl S.length), S ++ [P.m]) → S__law_purse [.sh (.int cell), .sh (.int k)] S = some (.ok (.cl S.length), S ++ [P.m]) := fun P h => by
    show runD false 2 (B__law_purse) _ _ = _
    unfold runD
    have h' : B__law_purse (([.sh (.int cell), .sh (.int k)] : List SV).map some ++ List.replicate (2 - ([.sh (.int cell), .sh (.int k)] : List SV).length) none) S = some (.rt (.cl S.length), S ++ [P.m]) := h
    rw [h']
    show fin false S (.cl S.length) (S ++ [P.m]) = _
    unfold fin
    simp [cut_more, Pu.m]
  have mk : ∀ a c : Int, mkL true [.sh (.int a), .sh (.int 0), .sh (.int c)] S = some (.ok (.cl S.length), S ++ [(Pu.mk a 0 c).m]) := fun a c => ev_mkLT (xs := [.sh (.int a), .sh (.int 0), .sh (.int c)]) (le_line (by decide : 3 ≤ 16777216))
  by_cases c : 1000000000000000000 ≤ cell
  · have e1 : dGe (.int cell) (.int 1000000000000000000) = some (.val (.bl true)) := by
      show some (An.val (D.bl (decide ((1000000000000000000 : Int) ≤ cell)))) = _
      rw [decide_eq_true c]
    have e2 : dI (fun _ _ => true) (fun i j => i - j) (.int cell) (.int 1000000000000000000) = some (.val (.int (cell - 1000000000000000000))) := rfl
    have e3 := mod_ok (i := cell - 1000000000000000000) (j := 1000000000000000000000000000000000000000000000000000000000000 ^ 10) (by decide)
    refine ⟨⟨(cell - 1000000000000000000) % (1000000000000000000000000000000000000000000000000000000000000 ^ 10), 0, k⟩, ⟨by simp, by simp⟩, key _ ?_⟩
    have p := p10_600
    generalize (1000000000000000000000000000000000000000000000000000000000000 ^ 10 : Int) = B at e3 p ⊢
    simp [B__law_purse, p10_18, p10_60, p, e1, e2, e3, mk]
  · have e1 : dGe (.int cell) (.int 1000000000000000000) = some (.val (.bl false)) := by
      show some (An.val (D.bl (decide ((1000000000000000000 : Int) ≤ cell)))) = _
      rw [decide_eq_false c]
    obtain ⟨r, _, _, er⟩ := mixed_eq cell k (by omega) S
    have c1 : dAdd (.int 1000000000000000000) (.int 9) = some (.val (.int 1000000000000000009)) := rfl
    have e3 := mod_ok (i := cell) (j := 1000000000000000009) (by decide)
    have e4 := dAdd_ii (cell % 1000000000000000009) k
    refine ⟨⟨r, 0, cell % 1000000000000000009 + k⟩, ⟨by simp, by simp⟩, key _ ?_⟩
    simp [B__law_purse, p10_18, e1, er, c1, e3, e4, mk]
/-- fr != [] -/
theorem dEq_nil (l : List (List Nat)) (h : ∀ w ∈ l, sok w) : dEq true (.lst (wds l)) (.lst []) = some (.val (.bl (!decide (l = [])))) := by
  have e : wds l = (l.map Pt.w).map Pt.d := by unfold wds; rw [List.map_map]; rfl
  obtain ⟨h1, h2⟩ := py_lay (l.map Pt.w) fun p hp => by
    obtain ⟨w, hw, rfl⟩ := List.mem_map.mp hp
    exact h w hw
  have h3 := py_eqv (l.map Pt.w) []
  unfold dEq toPy
  rw [e, py_all]
  simp only [List.map_nil, List.map_map] at h1 h2 h3
  simp [toPyL, SeqAt.shaped, PyData.canLay0, PyData.depth, PyData.eqv, h1, h2, h3, PyData.canLayAll0, PyData.depthAll]
/-- a drawn tree: below d functions, names of fr -/
structure Dr (t : Tr) (deep d : Nat) (fr : List (List Nat)) : Prop where
  cl : t.Cl d
  nm : ∀ x ∈ t.free, x ∈ fr
  ht : t.ht ≤ deep + 1
  sz : t.size ≤ 3 * 2 ^ deep - 1
  fl : t.free.length ≤ 2 ^ deep
theorem int_eq0 (i : Int) : dEq false (.int i) (.int 0) = some (.val (.bl (decide (i = 0)))) := by
  rw [dEq_ii]
  simp
  rfl
theorem dLen_wds (l : List (List Nat)) : dLen (.lst (wds l)) = some (.val (.int l.length)) := by simp [dLen, seqD, wds]
theorem leaf_eq {S : Store} {k n : Nat} {P : Pu} (h : S[k]? = some P.m) (hf : P.Fw n) (hn : n + 2 < 2 ^ 60) (d : Nat) (hd : d < 1000) (fr : List (List Nat)) (hfr : ∀ w ∈ fr, sok w) (hl : fr.length < 1000) :
    ∃ (t : Tr) (P' : Pu), Dr t 0 d fr ∧ P'.Fw (n + 2) ∧ S__law_leaf [.cl k, .sh (.int d), .sh (.lst (wds fr))] S = some (.ok (.sh t.e), S.set k P'.m) := by
  have en := dEq_nil fr hfr
  have ed := int_eq0 d
  have el := dLen_wds fr
  /- the two ways out -/
  have name : ∀ (S1 : Store) (P1 : Pu) (n1 : Nat), S1[k]? = some P1.m → P1.Fw n1 → n1 + 1 < 2 ^ 60 → fr ≠ [] → ∃ (w : List Nat) (r : Int) (P' : Pu), w ∈ fr ∧ P'.Fw (n1 + 1) ∧ S__law_take [.cl k, .sh (.int fr.length)] S1 = some (.ok (.sh (.int r)), S1.set k P'.m) ∧ dIx (.lst (wds fr)) (.int r) = some (.val (.str (tx w))) := by
    intro S1 P1 n1 h1 f1 hn1 hne
    have hp : 0 < fr.length := List.length_pos_iff.mpr hne
    obtain ⟨r, P', r0, r1, f', e⟩ := take_eq h1 f1 (by omega) fr.length (by omega) (by omega)
    have hr : r.toNat < fr.length := by omega
    refine ⟨fr[r.toNat], r, P', List.getElem_mem hr, f', e, ?_⟩
    have := dIx_wds (List.getElem?_eq_getElem hr)
    rwa [Int.toNat_of_nonneg r0] at this
  by_cases hne : fr = []
  · subst hne
    simp only [decide_true, Bool.not_true] at en
    by_cases d0 : d = 0
    · subst d0
      refine ⟨.l (.v 0), P, ⟨Nat.lt_succ_self 0, by simp [Tr.free], by simp [Tr.ht], by simp [Tr.size], by simp [Tr.free]⟩, hf.mono (by omega), ?_⟩
      rw [set_same h]
      refine runD_sh ?_ (cut_self S)
      have ed' : dEq false (.int 0) (.int 0) = some (.val (.bl true)) := ed
      simp [B__law_leaf, en, ed', Tr.e]
    · obtain ⟨r, P', r0, r1, f', e⟩ := take_eq h hf (by omega) d (by omega) (by omega)
      refine ⟨.v r.toNat, P', ⟨(by show r.toNat < d; omega), by simp [Tr.free], by simp [Tr.ht], by simp [Tr.size], by simp [Tr.free]⟩, f'.mono (by omega), ?_⟩
      refine runD_sh ?_ (cut_set' S k (pu_flat _))
      have er : ((r.toNat : Nat) : Int) = r := Int.toNat_of_nonneg r0
      have d0' : ¬ (d : Int) = 0 := by omega
      simp [B__law_leaf, en, ed, d0, e, Tr.e, er]
  · simp only [hne, decide_false, Bool.not_false] at en
    by_cases d0 : d = 0
    · obtain ⟨w, r, P', hw, f', e, ei⟩ := name S P n h hf (by omega) hne
      refine ⟨.n w, P', ⟨trivial, by simp [Tr.free]; exact hw, by simp [Tr.ht], by simp [Tr.size], by simp [Tr.free]⟩, f'.mono (by omega), ?_⟩
      refine runD_sh ?_ (cut_set' S k (pu_flat _))
      subst d0
      have ed' : dEq false (.int 0) (.int 0) = some (.val (.bl true)) := ed
      simp [B__law_leaf, en, ed', on1, el, e, ei, Tr.e]
    · obtain ⟨r6, P6, a0, a1, f6, e6⟩ := take_eq h hf (by omega) 6 (by decide) (by decide)
      have h6 : (S.set k P6.m)[k]? = some P6.m := get_set h
      have q6 := int_eq0 r6
      by_cases z : r6 = 0
      · obtain ⟨w, r, P', hw, f', e, ei⟩ := name (S.set k P6.m) P6 (n + 1) h6 f6 (by omega) hne
        refine ⟨.n w, P', ⟨trivial, by simp [Tr.free]; exact hw, by simp [Tr.ht], by simp [Tr.size], by simp [Tr.free]⟩, f'.mono (by omega), ?_⟩
        refine runD_sh ?_ (cut_set' S k (pu_flat _))
        rw [List.set_set] at e
        subst z
        simp [B__law_leaf, en, ed, d0, e6, q6, on1, el, e, ei, Tr.e]
      · obtain ⟨r, P', r0, r1, f', e⟩ := take_eq h6 f6 (by omega) d (by omega) (by omega)
        refine ⟨.v r.toNat, P', ⟨(by show r.toNat < d; omega), by simp [Tr.free], by simp [Tr.ht], by simp [Tr.size], by simp [Tr.free]⟩, f'.mono (by omega), ?_⟩
        refine runD_sh ?_ (cut_set' S k (pu_flat _))
        rw [List.set_set] at e
        have er : ((r.toNat : Nat) : Int) = r := Int.toNat_of_nonneg r0
        simp [B__law_leaf, en, ed, d0, e6, q6, z, e, Tr.e, er]
end Pg

set_option Elab.async false
set_option linter.all false
set_option maxRecDepth 100000
set_option maxHeartbeats 4000000
set_option exponentiation.threshold 1000
/-! k04, its mathematics, part p: drawn trees, names used. -/
namespace Pg
open PySem PySem.Spec PyProof.Rows L2 FW FwR
def cD : Nat → Nat
  | 0 => 3
  | n + 1 => 3 + 2 * cD n
theorem cD_ge : ∀ n, 3 ≤ cD n
  | 0 => Nat.le_refl _
  | n + 1 => by simp [cD]
theorem Dr.leaf {t : Tr} {d : Nat} {fr : List (List Nat)} (h : Dr t 0 d fr) (deep : Nat) : Dr t deep d fr := by
  have hp : 0 < 2 ^ deep := Nat.pow_pos (by decide)
  obtain ⟨h1, h2, h3, h4, h5⟩ := h
  simp at h4 h5
  exact ⟨h1, h2, by omega, by omega, by omega⟩
theorem drawn_eq (k : Nat) (fr : List (List Nat)) (hfr : ∀ w ∈ fr, sok w) (hl : fr.length < 1000) : ∀ (deep n d m : Nat) (S : Store) (P : Pu), deep < n → S[k]? = some P.m → P.Fw m → m + cD deep < 2 ^ 60 → d + deep < 1000 →
    ∃ (t : Tr) (P' : Pu), Dr t deep d fr ∧ P'.Fw (m + cD deep) ∧ S__law_drawn n [.cl k, .sh (.int deep), .sh (.int d), .sh (.lst (wds fr))] S = some (.ok (.sh t.e), S.set k P'.m)
  | deep, 0, _, _, _, _, h, _, _, _, _ => absurd h (Nat.not_lt_zero _)
  | 0, n + 1, d, m, S, P, h, hS, hf, hm, hd => by
    obtain ⟨w, P1, w0, w1, f1, e1⟩ := take_eq hS hf (by simp [cD] at hm; omega) 8 (by decide) (by decide)
    have h1 : (S.set k P1.m)[k]? = some P1.m := get_set hS
    obtain ⟨t, P', hD, f', e'⟩ := leaf_eq h1 f1 (by simp [cD] at hm; omega) d (by omega) fr hfr hl
    rw [List.set_set] at e'
    refine ⟨t, P', hD, f'.mono (by simp [cD]), runD_sh ?_ (cut_set' S k (pu_flat _))⟩
    have q : dEq false (.int 0) (.int 0) = some (.val (.bl true)) := int_eq0 0
    simp [B__law_drawn, e1, q, e']
  | deep + 1, n + 1, d, m, S, P, h, hS, hf, hm, hd => by
    simp only [cD] at hm
    have hp : 0 < 2 ^ deep := Nat.pow_pos (by decide)
    have hpow : 2 ^ (deep + 1) = 2 * 2 ^ deep := by rw [Nat.pow_succ, Nat.mul_comm]
    obtain ⟨w, P1, w0, w1, f1, e1⟩ := take_eq hS hf (by omega) 8 (by decide) (by decide)
    have h1 : (S.set k P1.m)[k]? = some P1.m := get_set hS
    have q : dEq false (.int ((deep : Int) + 1)) (.int 0) = some (.val (.bl false)) := by
      rw [int_eq0, decide_eq_false (by omega)]
    have qw := int_eq0 w
    by_cases c0 : w = 0
    · obtain ⟨t, P', hD, f', e'⟩ := leaf_eq h1 f1 (by have := cD_ge deep; omega) d (by omega) fr hfr hl
      rw [List.set_set] at e'
      refine ⟨t, P', hD.leaf _, f'.mono (by simp [cD]; omega), runD_sh ?_ (cut_set' S k (pu_flat _))⟩
      subst c0
      simp [B__law_drawn, e1, q, qw, e']
    · have sb : dI (fun _ _ => true) (fun i j => i - j) (.int ((deep : Int) + 1)) (.int 1) = some (.val (.int deep)) := by
        show some (An.val (D.int ((deep : Int) + 1 - 1))) = _
        congr 3
        omega
      by_cases c1 : w < 4
      · have lt : dLt (.int w) (.int 4) = some (.val (.bl true)) := by
          show some (An.val (D.bl (decide (w < 4)))) = _
          rw [decide_eq_true c1]
        obtain ⟨t, P', hD, f', e'⟩ := drawn_eq k fr hfr hl deep n (d + 1) (m + 1) (S.set k P1.m) P1 (by omega) h1 f1 (by omega) (by omega)
        rw [List.set_set] at e'
        have ad := dAdd_ii d 1
        have e2 : S__law_drawn n [.cl k, .sh (.int deep), .sh (.int ((d : Int) + 1)), .sh (.lst (wds fr))] (S.set k P1.m) = some (.ok (.sh t.e), S.set k P'.m) := e'
        obtain ⟨g1, g2, g3, g4, g5⟩ := hD
        refine ⟨.l t, P', ⟨g1, g2, by simp [Tr.ht]; omega, by simp only [Tr.size]; omega, by simp only [Tr.free]; omega⟩, f'.mono (by simp [cD]; omega), runD_sh ?_ (cut_set' S k (pu_flat _))⟩
        simp [B__law_drawn, e1, q, qw, c0, lt, sb, ad, e2, Tr.e]
      · have lt : dLt (.int w) (.int 4) = some (.val (.bl false)) := by
          show some (An.val (D.bl (decide (w < 4)))) = _
          rw [decide_eq_false c1]
        obtain ⟨a, P2, hA, f2, e2⟩ := drawn_eq k fr hfr hl deep n d (m + 1) (S.set k P1.m) P1 (by omega) h1 f1 (by omega) (by omega)
        rw [List.set_set] at e2
        have h2 : (S.set k P2.m)[k]? = some P2.m := get_set hS
        obtain ⟨b, P3, hB, f3, e3⟩ := drawn_eq k fr hfr hl deep n d (m + 1 + cD deep) (S.set k P2.m) P2 (by omega) h2 f2 (by omega) (by omega)
        rw [List.set_set] at e3
        obtain ⟨g1, g2, g3, g4, g5⟩ := hA
        obtain ⟨k1, k2, k3, k4, k5⟩ := hB
        refine ⟨.p a b, P3, ⟨⟨g1, k1⟩, fun x hx => ?_, by simp [Tr.ht]; omega, by simp only [Tr.size]; omega, by simp only [Tr.free, List.length_append]; omega⟩, f3.mono (by simp [cD]; omega), runD_sh ?_ (cut_set' S k (pu_flat _))⟩
        · rcases List.mem_append.mp hx with e | e
          · exact g2 x e
          · exact k2 x e
        · simp [B__law_drawn, e1, q, qw, c0, lt, sb, e2, e3, Tr.e]
/-! ### the outer names that are used -/
def Tr.us : Tr → Nat → List Nat
  | .n _, _ => []
  | .v i, d => if i < d then [] else [i - d]
  | .l t, d => t.us (d + 1)
  | .p a b, d => a.us d ++ b.us d
theorem us_len : ∀ (t : Tr) (d : Nat), (t.us d).length ≤ t.size
  | .n _, d => by simp [Tr.us]
  | .v i, d => by unfold Tr.us; split <;> simp [Tr.size]
  | .l t, d => by have := us_len t (d + 1); simp [Tr.us, Tr.size]; omega
  | .p a b, d => by have := us_len a d; have := us_len b d; simp [Tr.us, Tr.size]; omega
theorem us_lt : ∀ (t : Tr) (d e : Nat), t.Cl (d + e) → ∀ u ∈ t.us d, u < e
  | .n _, d, e, _, u, hu => by simp [Tr.us] at hu
  | .v i, d, e, h, u, hu => by
    have h' : i < d + e := h
    unfold Tr.us at hu
    split at hu
    · simp at hu
    · simp at hu; omega
  | .l t, d, e, h, u, hu => us_lt t (d + 1) e (by have h' : t.Cl (d + e + 1) := h; rwa [show d + 1 + e = d + e + 1 by omega]) u hu
  | .p a b, d, e, h, u, hu => by
    rcases List.mem_append.mp hu with q | q
    · exact us_lt a d e h.1 u q
    · exact us_lt b d e h.2 u q
theorem nds_app (a b : List Nat) : nds (a ++ b) = nds a ++ nds b := by simp [nds]
theorem law_used_eq : ∀ (t : Tr) (n d : Nat) (S : Store), t.ht < n → t.size < 100000 → S__law_used n [.sh t.e, .sh (.int d)] S = some (.ok (.sh (.lst (nds (t.us d)))), S)
  | .n x, n + 1, d, S, h, hs => runD_0 (by simp [B__law_used, Tr.e, Tr.us, nds])
  | .v i, n + 1, d, S, h, hs => by
    refine runD_0 ?_
    have lt : dLt (.int i) (.int d) = some (.val (.bl (decide (i < d)))) := by
      show some (An.val (D.bl (decide ((i : Int) < d)))) = _
      congr 3
      exact decide_eq_decide.mpr (by omega)
    by_cases c : i < d
    · simp [B__law_used, Tr.e, Tr.us, nds, lt, c]
    · have sb : dI (fun _ _ => true) (fun i j => i - j) (.int i) (.int d) = some (.val (.int ((i - d : Nat) : Int))) := by
        show some (An.val (D.int ((i : Int) - d))) = _
        congr 3
        omega
      simp [B__law_used, Tr.e, Tr.us, nds, lt, c, sb]
  | .l t, n + 1, d, S, h, hs => by
    simp only [Tr.ht, Tr.size] at h hs
    have ih := law_used_eq t n (d + 1) S (by omega) (by omega)
    have ih' : S__law_used n [.sh t.e, .sh (.int ((d : Int) + 1))] S = some (.ok (.sh (.lst (nds (t.us (d + 1))))), S) := ih
    have ad := dAdd_ii d 1
    exact runD_0 (by simp [B__law_used, Tr.e, Tr.us, ih', ad])
  | .p a b, n + 1, d, S, h, hs => by
    simp only [Tr.ht, Tr.size] at h hs
    have i1 := law_used_eq a n d S (by omega) (by omega)
    have i2 := law_used_eq b n d S (by omega) (by omega)
    have h1 := us_len a d
    have h2 := us_len b d
    have ea := dAdd_ll (a := nds (a.us d)) (b := nds (b.us d)) (by simp [nds]; omega)
    rw [← nds_app] at ea
    exact runD_0 (by simp [B__law_used, Tr.e, Tr.us, i1, i2, ea])
  | _, 0, _, _, h, _ => absurd h (Nat.not_lt_zero _)
end Pg

set_option Elab.async false
set_option linter.all false
set_option maxRecDepth 100000
set_option maxHeartbeats 4000000
set_option exponentiation.threshold 1000
/-! k04, its mathematics, part q: bound names drawn. -/
namespace Pg
open PySem PySem.Spec PyProof.Rows L2 FW FwR
theorem WL_word : ∀ w ∈ WL, Word w := by
  have : ∀ w ∈ WL, (∀ c ∈ w, 97 ≤ c ∧ c ≤ 122) ∧ 1 ≤ w.length ∧ w.length ≤ 8 := by decide +kernel
  exact fun w h => ⟨(this w h).1, (this w h).2.1, (this w h).2.2⟩
theorem nf_word (hd : List (List Nat)) : ∀ w ∈ nf hd 702, Word w ∧ w ∉ hd := by
  intro w hw
  unfold nf at hw
  rw [WL_eq, List.mem_filter] at hw
  exact ⟨WL_word w hw.1, by simpa using hw.2⟩
/-- words[-1 - u] -/
def bk (ws : List (List Nat)) (u : Nat) : List Nat := ws.getD (ws.length - 1 - u) []
theorem bk_mem {ws : List (List Nat)} {u : Nat} (h : u < ws.length) : bk ws u ∈ ws := by
  unfold bk
  rw [List.getD_eq_getElem?_getD, List.getElem?_eq_getElem (by omega)]
  exact List.getElem_mem _
theorem bk_ix {ws : List (List Nat)} {u : Nat} (h : u < ws.length) : dIx (.lst (wds ws)) (.int (-1 - (u : Int))) = some (.val (.str (tx (bk ws u)))) := by
  show ((seqD (.lst (wds ws))).bind fun ds => (atI ds (-1 - (u : Int))).map An.val) = _
  have hl : (wds ws).length = ws.length := wds_len ws
  have hi : ixN ws.length (-1 - (u : Int)) = some (ws.length - 1 - u) := by
    unfold ixN
    rw [if_neg (by omega), if_pos (by omega)]
    congr 1
    omega
  have hg : (wds ws)[ws.length - 1 - u]? = some (.str (tx (bk ws u))) := by
    unfold wds bk
    rw [List.getElem?_map, List.getD_eq_getElem?_getD, List.getElem?_eq_getElem (show ws.length - 1 - u < ws.length by omega)]
    rfl
  simp only [seqD, Option.bind_some]
  unfold atI
  rw [hl, hi]
  simp [hg]
def seven : List (List Nat) := [[120], [121], [97], [98], [97, 98], [97, 98, 99, 100, 101, 102, 103, 104], [113]]
theorem seven_word : ∀ w ∈ seven, Word w := by
  have : ∀ w ∈ seven, (∀ c ∈ w, 97 ≤ c ∧ c ≤ 122) ∧ 1 ≤ w.length ∧ w.length ≤ 8 := by decide +kernel
  exact fun w h => ⟨(this w h).1, (this w h).2.1, (this w h).2.2⟩
theorem binder_eq {S : Store} {k n : Nat} {P : Pu} (h : S[k]? = some P.m) (hf : P.Fw n) (hn : n < 2 ^ 59) (t : Tr) (ws : List (List Nat)) (ht : t.ht < 40) (hs : t.size < 300) (hc : t.Cl (ws.length + 1)) :
    ∃ (w : List Nat) (P' : Pu), Word w ∧ (∀ x ∈ t.free, w ≠ x) ∧ (∀ u ∈ t.us 1, w ≠ bk ws u) ∧ P'.Fw (n + 1) ∧ S__law_binder [.cl k, .sh t.e, .sh (.lst (wds ws))] S = some (.ok (.sh (.str (tx w))), S.set k P'.m) := by
  have e1 := law_free_eq t 40 S ht (by omega)
  have e2 : S__law_used 40 [.sh t.e, .sh (.int 1)] S = some (.ok (.sh (.lst (nds (t.us 1)))), S) := law_used_eq t 40 1 S ht (by omega)
  have hu : ∀ u ∈ t.us 1, u < ws.length := us_lt t 1 ws.length (by rwa [Nat.add_comm])
  have l1 := us_len t 1
  have l2 := free_len t
  have ec := comp_map (vs := [4]) (it := itL (sCall 2 (S__law_used 40) (aCons (sVar 1) (aCons (sC (.int 1)) aNil)))) (g := tgN 4) (t := tYs) (f := b2 false dIx (sVar 2) (b2 false (dI (fun _ _ => true) fun i j => i - j) (b2 false (dI (fun _ _ => true) fun i j => i - j) (sC (.int 0)) (sC (.int 1))) (sVar 4)))
    (ss := [some (.cl k), some (.sh t.e), some (.sh (.lst (wds ws))), none, none, none]) (S := S) (S1 := S) (ds := nds (t.us 1)) (fun d => match d with | .int i => .str (tx (bk ws i.toNat)) | d => d) (by simp [itL, e2, frz]) (fun d hd => ?_) (by simp [nds]; rw [sizeLine_val]; omega)
  · have eb : (nds (t.us 1)).map (fun d => match d with | .int i => .str (tx (bk ws i.toNat)) | d => d) = wds ((t.us 1).map (bk ws)) := by
      unfold nds wds
      rw [List.map_map, List.map_map]
      apply List.map_congr_left
      intro u _
      show D.str (tx (bk ws (u : Int).toNat)) = _
      rw [Int.toNat_natCast]; rfl
    rw [eb] at ec
    have ea := dAdd_ll (a := wds t.free) (b := wds ((t.us 1).map (bk ws))) (by simp only [wds_len, List.length_map]; omega)
    rw [← wds_app] at ea
    generalize hbr : t.free ++ (t.us 1).map (bk ws) = barred at ea
    have hbl : barred.length ≤ 600 := by rw [← hbr, List.length_append, List.length_map]; omega
    obtain ⟨r, P', r0, r1, f', et⟩ := take_eq h hf (by omega) 7 (by decide) (by decide)
    have hr : r.toNat < seven.length := by show r.toNat < 7; omega
    have ei := dIx_wds (List.getElem?_eq_getElem hr)
    rw [Int.toNat_of_nonneg r0] at ei
    have ei' : dIx (.lst [.str "x", .str "y", .str "a", .str "b", .str "ab", .str "abcdefgh", .str "q"]) (.int r) = some (.val (.str (tx seven[r.toNat]))) := ei
    have hsw := seven_word _ (List.getElem_mem hr)
    generalize seven[r.toNat] = w at ei' hsw
    have em : mkL false [.sh (.str "x"), .sh (.str "y"), .sh (.str "a"), .sh (.str "b"), .sh (.str "ab"), .sh (.str "abcdefgh"), .sh (.str "q")] S = some (.ok (.sh (.lst [.str "x", .str "y", .str "a", .str "b", .str "ab", .str "abcdefgh", .str "q"])), S) :=
      ev_mkLF (xs := [.sh (.str "x"), .sh (.str "y"), .sh (.str "a"), .sh (.str "b"), .sh (.str "ab"), .sh (.str "abcdefgh"), .sh (.str "q")]) rfl (le_line (by decide : 7 ≤ 16777216))
    have ein := dInA_wds false w barred
    have out : ∀ v : List Nat, v ∉ barred → (∀ x ∈ t.free, v ≠ x) ∧ (∀ u ∈ t.us 1, v ≠ bk ws u) := fun v hv => by
      rw [← hbr, List.mem_append, List.mem_map] at hv
      exact ⟨fun x hx e => hv (.inl (e ▸ hx)), fun u hu' e => hv (.inr ⟨u, hu', e.symm⟩)⟩
    by_cases c : w ∈ barred
    · have hg := nf_ge barred 702
      have ew : S__law_words [.sh (.lst (wds barred)), .sh (.int 1)] (S.set k P'.m) = some (.ok (.sh (.lst (wds ((nf barred 702).take 1)))), S.set k P'.m) := law_words_eq barred 1 _
      cases hnf : nf barred 702 with
      | nil => rw [hnf] at hg; simp at hg; omega
      | cons v r' =>
        have hv := nf_word barred v (by rw [hnf]; exact List.mem_cons_self)
        have e0 : wds ((nf barred 702).take 1) = [.str (tx v)] := by rw [hnf]; rfl
        rw [e0] at ew
        obtain ⟨o1, o2⟩ := out v hv.2
        refine ⟨v, P', hv.1, o1, o2, f', runD_sh ?_ (cut_set' S k (pu_flat _))⟩
        simp [B__law_binder, e1, ec, ea, et, em, ei', ein, c, ew]
    · obtain ⟨o1, o2⟩ := out w c
      refine ⟨w, P', hsw, o1, o2, f', runD_sh ?_ (cut_set' S k (pu_flat _))⟩
      simp [B__law_binder, e1, ec, ea, et, em, ei', ein, c]
  · unfold nds at hd
    obtain ⟨u, hu', rfl⟩ := List.mem_map.mp hd
    refine ⟨_, rfl, rfl, ?_⟩
    have eb := bk_ix (hu u hu')
    have s1 : dI (fun _ _ => true) (fun i j => i - j) (.int 0) (.int 1) = some (.val (.int (-1))) := rfl
    have s2 : dI (fun _ _ => true) (fun i j => i - j) (.int (-1)) (.int u) = some (.val (.int (-1 - (u : Int)))) := rfl
    simp [wipeS, s1, s2, eb]
end Pg

set_option Elab.async false
set_option linter.all false
set_option maxRecDepth 100000
set_option maxHeartbeats 4000000
set_option exponentiation.threshold 1000
/-! k04, its mathematics, part r: a tree, its bound names told by drawn words. -/
namespace Pg
open PySem PySem.Spec PyProof.Rows L2 FW FwR
/-- outer names by their words -/
def Tr.out (ws : List (List Nat)) : Tr → Nat → Tr
  | .n x, _ => .n x
  | .v i, k => if i < k then .v i else .n (bk ws (i - k))
  | .l t, k => .l (Tr.out ws t (k + 1))
  | .p a b, k => .p (Tr.out ws a k) (Tr.out ws b k)
theorem out_id (ws : List (List Nat)) : ∀ (t : Tr) (k : Nat), t.Cl k → Tr.out ws t k = t
  | .n x, _, _ => rfl
  | .v i, k, h => if_pos h
  | .l t, k, h => by show Tr.l _ = _; rw [out_id ws t (k + 1) h]
  | .p a b, k, h => by show Tr.p _ _ = _; rw [out_id ws a k h.1, out_id ws b k h.2]
theorem bk_last (ws : List (List Nat)) (w : List Nat) : bk (ws ++ [w]) 0 = w := by simp [bk]
theorem bk_more (ws : List (List Nat)) (w : List Nat) {u : Nat} (h : u < ws.length) : bk (ws ++ [w]) (u + 1) = bk ws u := by
  unfold bk
  rw [List.length_append, List.length_singleton, List.getD_eq_getElem?_getD, List.getD_eq_getElem?_getD, List.getElem?_append_left (by omega)]
  congr 2
  omega
theorem abs_out (ws : List (List Nat)) (w : List Nat) : ∀ (t : Tr) (k : Nat), t.Cl (ws.length + 1 + k) → (∀ x ∈ t.free, w ≠ x) → (∀ u ∈ t.us (k + 1), w ≠ bk ws u) → (Tr.out (ws ++ [w]) t k).abs w k = Tr.out ws t (k + 1)
  | .n x, k, hc, h1, h2 => by
    have := h1 x (by simp [Tr.free])
    show (if x = w then Tr.v k else .n x) = .n x
    rw [if_neg (fun e => this e.symm)]
  | .v i, k, hc, h1, h2 => by
    have hi : i < ws.length + 1 + k := hc
    by_cases c : i < k
    · have e1 : Tr.out (ws ++ [w]) (.v i) k = .v i := if_pos c
      have e2 : Tr.out ws (.v i) (k + 1) = .v i := if_pos (by omega)
      rw [e1, e2]; rfl
    · have e1 : Tr.out (ws ++ [w]) (.v i) k = .n (bk (ws ++ [w]) (i - k)) := if_neg c
      rw [e1]
      by_cases c2 : i = k
      · subst c2
        have e2 : Tr.out ws (.v i) (i + 1) = .v i := if_pos (by omega)
        rw [e2, Nat.sub_self, bk_last]
        exact if_pos rfl
      · have e2 : Tr.out ws (.v i) (k + 1) = .n (bk ws (i - (k + 1))) := if_neg (by omega)
        have e3 : i - k = (i - (k + 1)) + 1 := by omega
        rw [e2, e3, bk_more ws w (by omega)]
        have := h2 (i - (k + 1)) (by unfold Tr.us; rw [if_neg (by omega)]; exact List.mem_cons_self)
        exact if_neg fun e => this e.symm
  | .l t, k, hc, h1, h2 => by
    show Tr.l _ = Tr.l _
    rw [abs_out ws w t (k + 1) (by have h' : t.Cl (ws.length + 1 + k + 1) := hc; rwa [show ws.length + 1 + (k + 1) = ws.length + 1 + k + 1 by omega]) h1 h2]
  | .p a b, k, hc, h1, h2 => by
    show Tr.p _ _ = Tr.p _ _
    rw [abs_out ws w a k hc.1 (fun x hx => h1 x (List.mem_append_left _ hx)) (fun u hu => h2 u (List.mem_append_left _ hu)), abs_out ws w b k hc.2 (fun x hx => h1 x (List.mem_append_right _ hx)) (fun u hu => h2 u (List.mem_append_right _ hu))]
theorem named_eq (k : Nat) : ∀ (t : Tr) (n m : Nat) (ws : List (List Nat)) (S : Store) (P : Pu), t.ht < n → t.ht < 40 → t.size < 300 → t.Cl ws.length → (∀ x ∈ t.free, Word x) → (∀ w ∈ ws, Word w) → ws.length + t.size < 1000 → S[k]? = some P.m → P.Fw m → m + t.size < 2 ^ 59 →
    ∃ (a : Nm) (P' : Pu), a.tr = Tr.out ws t 0 ∧ a.Wd ∧ a.ht ≤ t.ht ∧ P'.Fw (m + t.size) ∧ S__law_named n [.cl k, .sh t.e, .sh (.lst (wds ws))] S = some (.ok (.sh a.e), S.set k P'.m)
  | .n x, n + 1, m, ws, S, P, h, h40, hz, hc, hx, hws, hl, hS, hf, hm => by
    refine ⟨.n x, P, rfl, hx x (by simp [Tr.free]), Nat.le_refl _, hf.mono (by omega), ?_⟩
    rw [set_same hS]
    exact runD_0 (by simp [B__law_named, Tr.e, Nm.e])
  | .v i, n + 1, m, ws, S, P, h, h40, hz, hc, hx, hws, hl, hS, hf, hm => by
    have hi : i < ws.length := hc
    have eb := bk_ix hi
    have s1 : dI (fun _ _ => true) (fun i j => i - j) (.int 0) (.int 1) = some (.val (.int (-1))) := rfl
    have s2 : dI (fun _ _ => true) (fun i j => i - j) (.int (-1)) (.int i) = some (.val (.int (-1 - (i : Int)))) := rfl
    refine ⟨.n (bk ws i), P, ?_, hws _ (bk_mem hi), Nat.le_refl _, hf.mono (by omega), ?_⟩
    · show Tr.n _ = (if i < 0 then Tr.v i else .n (bk ws (i - 0)))
      rw [if_neg (by omega)]; rfl
    · rw [set_same hS]
      exact runD_0 (by simp [B__law_named, Tr.e, Nm.e, s1, s2, eb])
  | .p a b, n + 1, m, ws, S, P, h, h40, hz, hc, hx, hws, hl, hS, hf, hm => by
    simp only [Tr.ht, Tr.size] at h h40 hz hl hm
    obtain ⟨a', P1, t1, w1, g1, f1, e1⟩ := named_eq k a n m ws S P (by omega) (by omega) (by omega) hc.1 (fun x h => hx x (List.mem_append_left _ h)) hws (by omega) hS hf (by omega)
    have h1 : (S.set k P1.m)[k]? = some P1.m := get_set hS
    obtain ⟨b', P2, t2, w2, g2, f2, e2⟩ := named_eq k b n (m + a.size) ws (S.set k P1.m) P1 (by omega) (by omega) (by omega) hc.2 (fun x h => hx x (List.mem_append_right _ h)) hws (by omega) h1 f1 (by omega)
    rw [List.set_set] at e2
    refine ⟨.p a' b', P2, ?_, ⟨w1, w2⟩, by simp only [Nm.ht, Tr.ht]; omega, f2.mono (by simp only [Tr.size]; omega), runD_sh ?_ (cut_set' S k (pu_flat _))⟩
    · show Tr.p a'.tr b'.tr = Tr.p _ _
      rw [t1, t2]
    · simp [B__law_named, Tr.e, Nm.e, e1, e2]
  | .l t, n + 1, m, ws, S, P, h, h40, hz, hc, hx, hws, hl, hS, hf, hm => by
    simp only [Tr.ht, Tr.size] at h h40 hz hl hm
    have hc' : t.Cl (ws.length + 1) := hc
    obtain ⟨w, P1, hw, o1, o2, f1, e1⟩ := binder_eq hS hf (by omega) t ws (by omega) (by omega) hc'
    have h1 : (S.set k P1.m)[k]? = some P1.m := get_set hS
    obtain ⟨b', P2, t2, w2, g2, f2, e2⟩ := named_eq k t n (m + 1) (ws ++ [w]) (S.set k P1.m) P1 (by omega) (by omega) (by omega) (by rw [List.length_append]; exact hc') hx (fun v hv => by
      rcases List.mem_append.mp hv with q | q
      · exact hws v q
      · simp at q; subst q; exact hw) (by rw [List.length_append]; simp; omega) h1 f1 (by omega)
    rw [List.set_set] at e2
    have ea := dAdd_ll (a := wds ws) (b := wds [w]) (by simp only [wds_len]; simp; omega)
    rw [← wds_app] at ea
    have ew : wds [w] = [.str (tx w)] := rfl
    rw [ew] at ea
    refine ⟨.l w b', P2, ?_, ⟨hw, w2⟩, by simp only [Nm.ht, Tr.ht]; omega, f2.mono (by simp only [Tr.size]; omega), runD_sh ?_ (cut_set' S k (pu_flat _))⟩
    · show Tr.l (b'.tr.abs w 0) = Tr.l _
      rw [t2, abs_out ws w t 0 (by simpa using hc') o1 o2]
    · simp [B__law_named, Tr.e, Nm.e, e1, ea, e2]
  | _, 0, _, _, _, _, h, _, _, _, _, _, _, _, _, _ => absurd h (Nat.not_lt_zero _)
end Pg

set_option Elab.async false
set_option linter.all false
set_option maxRecDepth 100000
set_option maxHeartbeats 4000000
/-! part dd: put_in. -/
namespace Pg
open PySem PySem.Spec PyProof.Rows L2 FW FwR
abbrev zh : GM := (tgT 2 (tgCons (tgN 3) (tgCons (tgN 4) tgNil)))
noncomputable def pLoop : SM := (gIf (sB (sDIn (sVar 3) (sVar 1))) (gEx (sMut uExtend (sVar 2) (aCons (sCall 2 S_raised (aCons (sFld "Term" "parts" (sDIxK (sVar 1) (sVar 3))) (aCons (sVar 4) aNil))) aNil))) (gEx (sMut uAppend (sVar 2) (aCons (sVar 3) aNil))))
/-- the cell k holds the dict of the word and the term -/
def HasD (S : Store) (k : Nat) (x : List Nat) (o : Tr) : Prop := ∀ T, dctL (S ++ T) (.cl k) = some (k, [.inr (tx x)], [.sh (tm (o.fl 0))])
theorem val_pt (x : List Nat) (v : SV) (p : Pt) : valX [.inr (tx x)] [v] (match p with | .w y => .inr (tx y) | .i n => .inl n : Key) = if p = .w x then some v else none := by
  cases p with
  | w y =>
    by_cases c : y = x
    · subst c; simp [valX]
    · have : tx x ≠ tx y := fun e => c (tx_inj e).symm
      simp [valX, this, c]
  | i n => simp [valX]
theorem key_pt (p : Pt) : keyS (.sh p.d) = some (match p with | .w y => .inr (tx y) | .i n => .inl n : Key) := by cases p <;> rfl
theorem din_pt {S : Store} {k : Nat} {x : List Nat} {o : Tr} (hd : HasD S k x o) (p : Pt) (T : Store) : dinC (.sh p.d) (.cl k) (S ++ T) = some (.ok (.sh (.bl (decide (p = .w x)))), S ++ T) := by
  unfold dinC
  rw [key_pt, hd T]
  simp only [val_pt]
  by_cases c : p = .w x <;> simp [c]
theorem dix_pt {S : Store} {k : Nat} {x : List Nat} {o : Tr} (hd : HasD S k x o) (T : Store) : dixK (.cl k) (.sh (.str (tx x))) (S ++ T) = some (.ok (.sh (tm (o.fl 0))), S ++ T) := by
  unfold dixK
  rw [hd T]
  simp [keyS, valX]
theorem pstep (S : Store) (q : SV) (k : Nat) (x : List Nat) (hx : sok x) (o : Tr) (ho : o.Cl 0) (hd : HasD S k x o) (p : Pt) (hp : p.ok) (d : Nat) (acc : List Pt) (h : acc.length + o.size + 1 < 16777216) :
    pLoop [some q, some (.cl k), some (.cl S.length), some (.sh p.d), some (.sh (.int d))] (S ++ [.lst (pls acc)]) =
      some (.nx [some q, some (.cl k), some (.cl S.length), some (.sh p.d), some (.sh (.int d))], S ++ [.lst (pls (acc ++ (if p = .w x then o.fl d else [p])))]) := by
  have e1 := din_pt hd p [.lst (pls acc)]
  have z1 : acc.length < sizeLine := by rw [sizeLine_val]; omega
  have er := raised_eq (o.fl 0) d (S ++ [.lst (pls acc)]) (by rw [Tr.fl_len, sizeLine_val]; omega)
  rw [up_fl d o 0 ho, Nat.zero_add] at er
  have z2 : acc.length + (o.fl d).length ≤ sizeLine := by rw [Tr.fl_len, sizeLine_val]; omega
  by_cases c : p = .w x
  · subst c
    have e2 := dix_pt hd [.lst (pls acc)]
    simp only [show (Pt.w x).d = D.str (tx x) from rfl] at e1 ⊢
    have et : fldD "Term" "parts" (.sh (tm (o.fl 0))) (S ++ [MO.lst (pls acc)]) = some (.ok (.sh (.tup ((o.fl 0).map Pt.d))), S ++ [MO.lst (pls acc)]) := by simp [tm, tmD]
    simp [pLoop, sDIn, sDIxK, e1, e2, sMut, cellL, et, er, ext_pls z2]
  · simp [pLoop, sDIn, e1, c, sMut, cellL, app_pls z1]
theorem ploop (S : Store) (q : SV) (k : Nat) (x : List Nat) (hx : sok x) (o : Tr) (hoc : o.Cl 0) (hd : HasD S k x o) : ∀ (t : Tr) (e : Nat) (acc : List Pt) (rest : List D) (pv dv : Option SV), t.Ok → t.Cl e → acc.length + t.size * (o.size + 1) + o.size + 1 < 16777216 →
    ∃ pv' dv', forL zh (pLoop) (zipD ((t.fl e).map Pt.d) (nds (t.dps e)) ++ rest) [some q, some (.cl k), some (.cl S.length), pv, dv] (S ++ [.lst (pls acc)]) =
      forL zh (pLoop) rest [some q, some (.cl k), some (.cl S.length), pv', dv'] (S ++ [.lst (pls (acc ++ (t.sub x o).fl e))]) ∧ (t.sub x o).size ≤ t.size * (o.size + 1)
  | .n y, e, acc, rest, pv, dv, ho, hc, h => by
    have s := pstep S q k x hx o hoc hd (.w y) ho e acc (by omega)
    have ei : (if Pt.w y = Pt.w x then o.fl e else [Pt.w y]) = ((Tr.n y).sub x o).fl e := by
      by_cases c : y = x
      · subst c; simp [Tr.sub]
      · simp [Tr.sub, c, Tr.fl]
    rw [ei] at s
    refine ⟨some (.sh (Pt.w y).d), some (.sh (.int e)), forL_nx rfl s, ?_⟩
    by_cases c : y = x
    · subst c; simp [Tr.sub, Tr.size]
    · simp [Tr.sub, c, Tr.size]
  | .v i, e, acc, rest, pv, dv, ho, hc, h => by
    have s := pstep S q k x hx o hoc hd (.i ((e : Int) - 1 - i)) trivial e acc (by omega)
    rw [if_neg (by simp)] at s
    exact ⟨some (.sh (Pt.i ((e : Int) - 1 - i)).d), some (.sh (.int e)), forL_nx rfl s, by simp [Tr.sub, Tr.size]⟩
  | .l t, e, acc, rest, pv, dv, ho, hc, h => by
    have hz : t.size * (o.size + 1) + (o.size + 1) = (Tr.l t).size * (o.size + 1) := by simp [Tr.size, Nat.add_mul]
    have s := pstep S q k x hx o hoc hd (.i (-1)) trivial e acc (by omega)
    rw [if_neg (by simp)] at s
    obtain ⟨pv', dv', ih, hl⟩ := ploop S q k x hx o hoc hd t (e + 1) (acc ++ [.i (-1)]) rest (some (.sh (Pt.i (-1)).d)) (some (.sh (.int e))) ho hc (by simp; omega)
    refine ⟨pv', dv', ?_, by simp [Tr.sub, Tr.size] at hz ⊢; omega⟩
    have st1 := forL_nx (r := zipD ((t.fl (e + 1)).map Pt.d) (nds (t.dps (e + 1))) ++ rest) (g := zh) (ss := [some q, some (.cl k), some (.cl S.length), pv, dv]) (d := .tup [(Pt.i (-1)).d, .int e]) rfl s
    refine st1.trans (ih.trans ?_)
    simp [Tr.sub, Tr.fl]
  | .p a b, e, acc, rest, pv, dv, ho, hc, h => by
    have hz : a.size * (o.size + 1) + b.size * (o.size + 1) + (o.size + 1) = (Tr.p a b).size * (o.size + 1) := by simp [Tr.size, Nat.add_mul]
    have s := pstep S q k x hx o hoc hd (.i (-2)) trivial e acc (by omega)
    rw [if_neg (by simp)] at s
    obtain ⟨pv1, dv1, i1, l1⟩ := ploop S q k x hx o hoc hd a e (acc ++ [.i (-2)]) (zipD ((b.fl e).map Pt.d) (nds (b.dps e)) ++ rest) (some (.sh (Pt.i (-2)).d)) (some (.sh (.int e))) ho.1 hc.1 (by simp; omega)
    obtain ⟨pv2, dv2, i2, l2⟩ := ploop S q k x hx o hoc hd b e ((acc ++ [.i (-2)]) ++ (a.sub x o).fl e) rest pv1 dv1 ho.2 hc.2 (by simp [Tr.fl_len]; omega)
    refine ⟨pv2, dv2, ?_, by simp [Tr.sub, Tr.size] at hz ⊢; omega⟩
    have e1 : zipD (((Tr.p a b).fl e).map Pt.d) (nds ((Tr.p a b).dps e)) ++ rest = .tup [(Pt.i (-2)).d, .int e] :: (zipD ((a.fl e).map Pt.d) (nds (a.dps e)) ++ (zipD ((b.fl e).map Pt.d) (nds (b.dps e)) ++ rest)) := by
      rw [← List.append_assoc, ← zipD_app (by simp [nds, Tr.fl_len, Tr.dps_len])]
      simp [Tr.fl, Tr.dps, nds, zipD]
    have st1 := forL_nx (r := (zipD ((a.fl e).map Pt.d) (nds (a.dps e)) ++ (zipD ((b.fl e).map Pt.d) (nds (b.dps e)) ++ rest))) (g := zh) (ss := [some q, some (.cl k), some (.cl S.length), pv, dv]) (d := .tup [(Pt.i (-2)).d, .int e]) rfl s
    rw [e1]
    refine st1.trans (i1.trans (i2.trans ?_))
    simp [Tr.sub, Tr.fl]
theorem all_put_in_eq (t o : Tr) (x : List Nat) (S : Store) (k : Nat) (hd : HasD S k x o) (hx : Word x) (ht : t.Ok) (htc : t.Cl 0) (hoc : o.Cl 0) (hs : t.size * (o.size + 1) + o.size < 16000000) :
    S_all_put_in [.sh (TM t), .cl k] S = some (.ok (.sh (TM (t.sub x o))), S) := by
  have hts : t.size ≤ t.size * (o.size + 1) := Nat.le_mul_of_pos_right _ (by omega)
  obtain ⟨pv, dv, h, hl⟩ := ploop S (.sh (TM t)) k x hx.ok o hoc hd t 0 [] [] none none ht htc (by simp; omega)
  refine runD_own [.lst (pls ((t.sub x o).fl 0))] ?_
  have e1 : mkL true [] S = some (.ok (.cl S.length), S ++ [.lst []]) := ev_mkLT (xs := []) (le_line (by decide : 0 ≤ 16777216))
  have ed := depths_eq t 0 (S ++ [.lst []]) ht htc (by omega)
  have h' : forL zh (pLoop) (zipD ((t.fl 0).map Pt.d) (nds (t.dps 0))) [some (.sh (TM t)), some (.cl k), some (.cl S.length), none, none] (S ++ [.lst []]) = some (.nx [some (.sh (TM t)), some (.cl k), some (.cl S.length), pv, dv], S ++ [.lst (pls ((t.sub x o).fl 0))]) := by
    simp only [List.append_nil, List.nil_append] at h
    exact h
  have em := make_eq (fa := aCons (sVar 2) aNil) (ss := [some (.sh (TM t)), some (.cl k), some (.cl S.length), pv, dv]) (S := S ++ [.lst (pls ((t.sub x o).fl 0))]) (S1 := S ++ [.lst (pls ((t.sub x o).fl 0))])
    (x := .cl S.length) (ds := ((t.sub x o).fl 0).map Pt.d) (by simp) ⟨.lst (((t.sub x o).fl 0).map Pt.d), fun T => by
      have : allSh (pls ((t.sub x o).fl 0)) = some (((t.sub x o).fl 0).map Pt.d) := by
        have := allSh_map (((t.sub x o).fl 0).map Pt.d)
        rw [List.map_map] at this
        exact this
      simp [lookD, this], rfl⟩
  have et : fldD "Term" "parts" (.sh (TM t)) (S ++ [MO.lst []]) = some (.ok (.sh (.tup ((t.fl 0).map Pt.d))), S ++ [MO.lst []]) := by simp [TM, tm, tmD]
  have ez : itZip (aCons (sFld "Term" "parts" (sVar 0)) (aCons (sCall 1 (S_depths) (aCons (sFld "Term" "parts" (sVar 0)) aNil)) aNil)) [some (.sh (TM t)), some (.cl k), some (.cl S.length), none, none] (S ++ [.lst []]) = some (.ok (zipD ((t.fl 0).map Pt.d) (nds (t.dps 0))), S ++ [.lst []]) := by
    simp [itZip, et, ed, frz, seqK, nds]
  unfold pLoop at h'
  simp [B_all_put_in, e1, gFor, ez, h', em]
  rfl
theorem put_in_eq (t o : Tr) (x : List Nat) (S : Store) (hx : Word x) (ht : t.Ok) (htc : t.Cl 0) (hoc : o.Cl 0) (hs : t.size * (o.size + 1) + o.size < 16000000) :
    S_put_in [.sh (TM t), .sh (.str (tx x)), .sh (TM o)] S = some (.ok (.sh (TM (t.sub x o))), S) := by
  have ha := all_put_in_eq t o x (S ++ [.dct [.inr (tx x)] [.sh (TM o)]]) S.length (fun T => by simp [dctL]; rfl) hx ht htc hoc hs
  refine runD_own [.dct [.inr (tx x)] [.sh (TM o)]] ?_
  have ed : sD1 (sVar 1) (sVar 2) [some (.sh (TM t)), some (.sh (.str (tx x))), some (.sh (TM o))] S = some (.ok (.cl S.length), S ++ [.dct [.inr (tx x)] [.sh (TM o)]]) := by simp [sD1, keyS]
  simp [B_put_in, check_word_eq x S hx.l hx.h1 hx.h8, ed, ha]
end Pg

set_option Elab.async false
set_option linter.all false
set_option maxRecDepth 100000
set_option maxHeartbeats 4000000
set_option exponentiation.threshold 1000
/-! k04, its mathematics, part s: what the law compares. -/
namespace Pg
open PySem PySem.Spec PyProof.Rows L2 FW FwR
theorem cl_mono : ∀ (t : Tr) {d e : Nat}, t.Cl d → d ≤ e → t.Cl e
  | .n _, _, _, _, _ => trivial
  | .v _, _, _, h, l => Nat.lt_of_lt_of_le h l
  | .l t, _, _, h, l => cl_mono t h (Nat.succ_le_succ l)
  | .p a b, _, _, h, l => ⟨cl_mono a h.1 l, cl_mono b h.2 l⟩
theorem sub_cl (x : List Nat) (o : Tr) (ho : o.Cl 0) : ∀ (t : Tr) (d : Nat), t.Cl d → (t.sub x o).Cl d
  | .n y, d, _ => by
    unfold Tr.sub
    split
    · exact cl_mono o ho (Nat.zero_le _)
    · trivial
  | .v _, _, h => h
  | .l t, d, h => sub_cl x o ho t (d + 1) h
  | .p a b, d, h => ⟨sub_cl x o ho a d h.1, sub_cl x o ho b d h.2⟩
theorem sub_ok (x : List Nat) (o : Tr) (ho : o.Ok) : ∀ t : Tr, t.Ok → (t.sub x o).Ok
  | .n y, h => by
    unfold Tr.sub
    split
    · exact ho
    · exact h
  | .v _, h => h
  | .l t, h => sub_ok x o ho t h
  | .p a b, h => ⟨sub_ok x o ho a h.1, sub_ok x o ho b h.2⟩
theorem sub_size (x : List Nat) (o : Tr) : ∀ t : Tr, (t.sub x o).size ≤ t.size + t.free.length * o.size
  | .n y => by unfold Tr.sub; split <;> simp [Tr.size, Tr.free]
  | .v _ => by simp [Tr.sub, Tr.size]
  | .l t => by have := sub_size x o t; simp only [Tr.sub, Tr.size, Tr.free]; omega
  | .p a b => by
    have := sub_size x o a
    have := sub_size x o b
    simp only [Tr.sub, Tr.size, Tr.free, List.length_append, Nat.add_mul]
    omega
theorem sub_ht (x : List Nat) (o : Tr) : ∀ t : Tr, (t.sub x o).ht ≤ t.ht + o.ht
  | .n y => by unfold Tr.sub; split <;> simp [Tr.ht]
  | .v _ => by simp [Tr.sub, Tr.ht]
  | .l t => by have := sub_ht x o t; simp only [Tr.sub, Tr.ht]; omega
  | .p a b => by have := sub_ht x o a; have := sub_ht x o b; simp only [Tr.sub, Tr.ht]; omega
theorem sub_free (x : List Nat) (o : Tr) : ∀ t : Tr, ∀ y ∈ (t.sub x o).free, y ∈ t.free ∨ y ∈ o.free
  | .n z, y, h => by
    unfold Tr.sub at h
    split at h
    · exact .inr h
    · exact .inl h
  | .v _, y, h => by simp [Tr.sub, Tr.free] at h
  | .l t, y, h => sub_free x o t y h
  | .p a b, y, h => by
    rcases List.mem_append.mp h with e | e
    · rcases sub_free x o a y e with q | q
      · exact .inl (List.mem_append_left _ q)
      · exact .inr q
    · rcases sub_free x o b y e with q | q
      · exact .inl (List.mem_append_right _ q)
      · exact .inr q
theorem sub_self (x : List Nat) : ∀ t : Tr, t.sub x (.n x) = t
  | .n y => by
    by_cases c : y = x
    · subst c; exact if_pos rfl
    · exact if_neg c
  | .v _ => rfl
  | .l t => by show Tr.l _ = _; rw [sub_self x t]
  | .p a b => by show Tr.p _ _ = _; rw [sub_self x a, sub_self x b]
theorem sub_not (x : List Nat) (o : Tr) : ∀ t : Tr, x ∉ t.free → t.sub x o = t
  | .n y, h => by
    have : ¬ y = x := fun e => h (by subst e; simp [Tr.free])
    exact if_neg this
  | .v _, _ => rfl
  | .l t, h => by show Tr.l _ = _; rw [sub_not x o t h]
  | .p a b, h => by
    show Tr.p _ _ = _
    rw [sub_not x o a fun q => h (List.mem_append_left _ q), sub_not x o b fun q => h (List.mem_append_right _ q)]
theorem sub_sub (x : List Nat) (o z : Tr) (hx : x ∉ o.free) : ∀ t : Tr, (t.sub x o).sub x z = t.sub x o
  | .n y => by
    by_cases c : y = x
    · subst c
      have e : (Tr.n y).sub y o = o := if_pos rfl
      rw [e, sub_not y z o hx]
    · have e : (Tr.n y).sub x o = .n y := if_neg c
      rw [e]
      exact if_neg c
  | .v _ => rfl
  | .l t => by show Tr.l _ = Tr.l _; rw [sub_sub x o z hx t]
  | .p a b => by show Tr.p _ _ = Tr.p _ _; rw [sub_sub x o z hx a, sub_sub x o z hx b]
theorem abs_not (q : List Nat) : ∀ (t : Tr) (k : Nat), q ∉ t.free → t.abs q k = t
  | .n y, k, h => by
    have : ¬ y = q := fun e => h (by subst e; simp [Tr.free])
    exact if_neg this
  | .v _, _, _ => rfl
  | .l t, k, h => by show Tr.l _ = _; rw [abs_not q t (k + 1) h]
  | .p a b, k, h => by
    show Tr.p _ _ = _
    rw [abs_not q a k fun e => h (List.mem_append_left _ e), abs_not q b k fun e => h (List.mem_append_right _ e)]
theorem abs_sub (q x : List Nat) (o : Tr) (hq : q ∉ o.free) (hx : x ≠ q) : ∀ (t : Tr) (k : Nat), (t.abs q k).sub x o = (t.sub x o).abs q k
  | .n y, k => by
    by_cases c : y = q
    · subst c
      have e1 : (Tr.n y).abs y k = .v k := if_pos rfl
      have e2 : (Tr.n y).sub x o = .n y := if_neg (fun e => hx e.symm)
      rw [e1, e2, e1]; rfl
    · have e1 : (Tr.n y).abs q k = .n y := if_neg c
      rw [e1]
      by_cases c2 : y = x
      · subst c2
        have e2 : (Tr.n y).sub y o = o := if_pos rfl
        rw [e2, abs_not q o k hq]
      · have e2 : (Tr.n y).sub x o = .n y := if_neg c2
        rw [e2, e1]
  | .v _, _ => rfl
  | .l t, k => by show Tr.l _ = Tr.l _; rw [abs_sub q x o hq hx t (k + 1)]
  | .p a b, k => by show Tr.p _ _ = Tr.p _ _; rw [abs_sub q x o hq hx a k, abs_sub q x o hq hx b k]
/-! ### texts are texts -/
theorem dig_sok (n : Nat) : ∀ c ∈ dig n, c < 123 := by
  induction n using Nat.strongRecOn with
  | ind n ih =>
    by_cases h0 : n = 0
    · subst h0; rw [dig_0]; simp
    · rw [dig_s n (by omega)]
      have hd : (n - 1) / 26 ≤ n - 1 := Nat.div_le_self _ _
      intro c hc
      rcases List.mem_cons.mp hc with e | e
      · omega
      · exact ih ((n - 1) / 26) (by omega) c e
theorem spw_sok (hd : List (List Nat)) (d : Nat) : sok (spw hd d) := by
  obtain ⟨j, _, e, _⟩ := spw_nth hd d
  rw [e]
  intro c hc
  have := dig_sok (j + 1) c (by simpa [nthW] using hc)
  omega
theorem sok_app {a b : List Nat} (ha : sok a) (hb : sok b) : sok (a ++ b) := fun c hc => by
  rcases List.mem_append.mp hc with e | e
  · exact ha c e
  · exact hb c e
theorem sok_lit : sok [91] ∧ sok [93, 32] ∧ sok [32] ∧ sok [40] ∧ sok [41] := by
  have h : ∀ l : List Nat, (∀ c ∈ l, c < 200) → sok l := fun l h c hc => by have := h c hc; omega
  exact ⟨h _ (by decide), h _ (by decide), h _ (by decide), h _ (by decide), h _ (by decide)⟩
theorem par_sok {b : Bool} {x : List Nat} (h : sok x) : sok (par b x) := by
  unfold par
  split
  · exact sok_app (sok_app sok_lit.2.2.2.1 h) sok_lit.2.2.2.2
  · exact h
theorem wr_sok (hd : List (List Nat)) : ∀ (t : Tr) (d : Nat), t.Ok → sok (wr (spw hd) t d)
  | .n x, d, h => h
  | .v i, d, _ => spw_sok _ _
  | .l t, d, h => sok_app (sok_app (sok_app sok_lit.1 (spw_sok _ _)) sok_lit.2.1) (wr_sok hd t (d + 1) h)
  | .p a b, d, h => sok_app (sok_app (par_sok (wr_sok hd a d h.1)) sok_lit.2.2.1) (par_sok (wr_sok hd b d h.2))
theorem ptext_sok {t : Tr} (h : t.Ok) : sok (ptext t) := by rw [ptext_wr]; exact wr_sok _ t 0 h
theorem dEq_text {t : Tr} (h : t.Ok) : dEq true (.str (tx (ptext t))) (.str (tx (ptext t))) = some (.val (.bl false)) := by
  rw [dEq_tt true (ptext_sok h) (ptext_sok h)]
  simp
/-! ### own answers -/
@[simp] theorem ev_strOwn {ar : Nat} {g : Fn} {ga : Sl → MM (List SV)} {ss : Sl} {S : Store} : sStrOwn "Term" ar g ga ss S = MM.bind (ga ss) (askOwn "Term" ar g isStrD) S := rfl
@[simp] theorem ev_ownCmp {m : Bool} {ar : Nat} {g : Fn} {fa fb : Sl → MM SV} {ss : Sl} {S : Store} : sOwnCmp "Term" m ar g fa fb ss S = MM.bind (fa ss) (fun x => MM.bind (fb ss) fun y => ownCmp "Term" m ar g x y) S := rfl
@[simp] theorem ev_callK {ar : Nat} {ix : List Nat} {g : Fn} {ga : Sl → MM (List SV)} {ss : Sl} {S : Store} : sCallK ar ix g ga ss S = MM.bind (ga ss) (fun xs S => if (permS ix xs).length = ar then g (permS ix xs) S else none) S := rfl
@[simp] theorem ev_kCons {f : Sl → MM SV} {ga : Sl → MM (List SV)} {ss : Sl} {S : Store} : kCons f ga ss S = MM.bind (f ss) (fun x => MM.bind (ga ss) fun xs S => some (.ok (x :: xs), S)) S := rfl
theorem isOwn_TM (t : Tr) : isOwn "Term" (.sh (TM t)) = true := by simp [TM, tm, tmD, isOwn]
theorem ask_str {t : Tr} {F : List (List Nat)} (h : Fit t F) (S : Store) : askOwn "Term" 1 (S_Term___str__) isStrD [.sh (TM t)] S = some (.ok (.sh (.str (tx (ptext t)))), S) := by
  have := str_eq t F h S
  unfold askOwn
  simp [isOwn_TM, this, isStrD]
theorem put_TM (a b : Tr) (S : Store) (h : a.size + b.size < 16777216) : S_put [.sh (TM a), .sh (TM b)] S = some (.ok (.sh (TM (.p a b))), S) :=
  put_eq (a.fl 0) (b.fl 0) S (by simpa [Tr.fl_len] using h)
theorem fun_TM (w : List Nat) (t : Tr) (S : Store) (h : Word w) (ho : t.Ok) (hc : t.Cl 0) (hs : t.size < 16777216) : S_fun [.sh (.str (tx w)), .sh (TM t)] S = some (.ok (.sh (TM (.l (t.abs w 0)))), S) := by
  have e := fun_eq w (t.fl 0) S h (Tr.ok_fl ho) (by simpa [Tr.fl_len] using hs)
  rw [abs_fl w t 0 hc] at e
  exact e
theorem name_TM (w : List Nat) (S : Store) (h : Word w) : S_name [.sh (.str (tx w))] S = some (.ok (.sh (TM (.n w))), S) := name_eq w S h
end Pg

set_option Elab.async false
set_option linter.all false
set_option maxRecDepth 100000
set_option maxHeartbeats 4000000
set_option exponentiation.threshold 1000
/-! part y: steps of a law, the cells that it walks. -/
namespace Pg
open PySem PySem.Spec PyProof.Rows L2 FW FwR
theorem seq_nx {a b : SM} {ss ρ : Sl} {S S1 : Store} (h : a ss S = some (.nx ρ, S1)) : gSeq a b ss S = b ρ S1 := by
  rw [ev_seq, h]
theorem seq2 {a b : SM} {ss ρ : Sl} {S S1 : Store} {r : Option (So × Store)} (h : a ss S = some (.nx ρ, S1)) (k : b ρ S1 = r) : gSeq a b ss S = r := (seq_nx h).trans k
theorem law_at_eq (ns : List Int) (j : Nat) (hj : j < 1000) (S : Store) : ∃ z : Int, S__law_at [.sh (.scr (ns.map D.int)), .sh (.int j)] S = some (.ok (.sh (.int z)), S) := by
  have el : dLen (.scr (ns.map D.int)) = some (.val (.int ns.length)) := by simp [dLen, seqD]
  by_cases c : j < ns.length
  · have e2 : dLt (.int j) (.int ns.length) = some (.val (.bl true)) := by
      show some (An.val (D.bl (decide ((j : Int) < ns.length)))) = _
      rw [decide_eq_true (by omega)]
    have e3 : dIx (.scr (ns.map D.int)) (.int j) = some (.val (.int ns[j])) := by
      show ((seqD (.scr (ns.map D.int))).bind fun ds => (atI ds (j : Int)).map An.val) = _
      have : atI (ns.map D.int) (((j : Nat) : Int)) = some (.int ns[j]) := atI_nat (by rw [List.getElem?_map, List.getElem?_eq_getElem c]; rfl)
      simp only [seqD, Option.bind_some]
      rw [this]; rfl
    exact ⟨ns[j], runD_0 (by simp [B__law_at, on1, el, e2, e3])⟩
  · have e2 : dLt (.int j) (.int ns.length) = some (.val (.bl false)) := by
      show some (An.val (D.bl (decide ((j : Int) < ns.length)))) = _
      rw [decide_eq_false (by omega)]
    have e3 := mul_ok (i := 3) (j := (j : Int)) (by decide) (by
      have : ((j : Int)).natAbs = j := by simp
      rw [this]
      exact Nat.lt_of_lt_of_le hj (by decide))
    exact ⟨3 * j + 1, runD_0 (by simp [B__law_at, on1, el, e2, e3, dAdd_ii])⟩
/-- script[:m] + [_law_at(script, j)] -/
theorem it_gen (ns : List Int) (m j : Nat) (hm : m < 1000) (hj : j < 1000) (v : List (Option SV)) : ∃ z : Int, itL (b2 false dAdd (bSl false (sVar 0) oN (oS (sC (.int m)))) (sLst false (aCons (sCall 2 S__law_at (aCons (sVar 0) (aCons (sC (.int j)) aNil))) aNil))) (some (.sh (.scr (ns.map D.int))) :: v) [] = some (.ok ((ns.take m ++ [z]).map D.int), []) := by
  have e1 : dSl none (some (m : Int)) (.scr (ns.map D.int)) = some (.lst ((ns.map D.int).take m)) := by
    show some (An.lst (FW.cutD _ _ _)) = _
    rw [cut_nat]
  obtain ⟨z, ez⟩ := law_at_eq ns j hj []
  have ed := dAdd_ll (a := (ns.map D.int).take m) (b := [.int z]) (by
    rw [List.length_take]; simp; omega)
  refine ⟨z, ?_⟩
  have e9 : (ns.take m ++ [z]).map D.int = (ns.map D.int).take m ++ [.int z] := by rw [List.map_append, List.map_take]; rfl
  rw [e9]
  simp [itL, bSl, oN, oS, s1, e1, ez, ed, frz]
end Pg

set_option Elab.async false
set_option linter.all false
set_option maxRecDepth 100000
set_option maxHeartbeats 4000000
/-! part x: own ==. -/
namespace Pg
open PySem PySem.Spec PyProof.Rows L2 FW FwR
theorem eq_eq (ps qs : List Pt) (S : Store) (hp : ∀ p ∈ ps, p.ok) (hq : ∀ p ∈ qs, p.ok) : S_Term___eq__ [.sh (tm ps), .sh (tm qs)] S = some (.ok (.sh (.bl (decide (ps = qs)))), S) := by
  refine runD_0 ?_
  have e1 : dIsiC "Term" (tm qs) (.cls "Term") = some (.val (.bl true)) := by simp [dIsiC, tm, tmD, ownD]
  have e2 := dEq_parts false hp hq
  simp [B_Term___eq__, on2, e1]
  simp [tm, tmD, e2]
theorem own_ne {a b : Tr} (ha : a.Ok) (e : a = b) (S : Store) : ownCmp "Term" true 2 (S_Term___eq__) (.sh (TM a)) (.sh (TM b)) S = some (.ok (.sh (.bl false)), S) := by
  subst e
  have := eq_eq (a.fl 0) (a.fl 0) S (Tr.ok_fl ha) (Tr.ok_fl ha)
  have ht : ownTy "Term" (.sh (TM a)) = true := by simp [TM, tm, tmD, ownTy, ownD]
  have h2 : S_Term___eq__ [.sh (TM a), .sh (TM a)] S = some (.ok (.sh (.bl true)), S) := by
    simpa [TM] using this
  unfold ownCmp
  simp [isOwn_TM, ht, h2]
end Pg

set_option Elab.async false
set_option linter.all false
set_option maxRecDepth 100000
set_option maxHeartbeats 4000000
/-! part z: the law's own putting in. -/
namespace Pg
open PySem PySem.Spec PyProof.Rows L2 FW FwR
theorem law_put_eq (x : List Nat) (hx : sok x) (o : Tr) : ∀ (t : Tr) (n : Nat) (S : Store), t.ht < n → t.Ok → S__law_put n [.sh t.e, .sh (.str (tx x)), .sh o.e] S = some (.ok (.sh (t.sub x o).e), S)
  | .n y, n + 1, S, h, ho => by
    have e1 := dEq_tt false (a := y) (b := x) ho hx
    by_cases c : y = x
    · refine runD_0 ?_
      subst c
      have ei : dInt (.bl true) = some (.val (.int 1)) := rfl
      simp [B__law_put, Tr.e, Tr.sub, e1, on1, ei]
    · refine runD_0 ?_
      have ei : dInt (.bl false) = some (.val (.int 0)) := rfl
      simp [B__law_put, Tr.e, Tr.sub, e1, c, on1, ei]
  | .v i, n + 1, S, h, ho => runD_0 (by simp [B__law_put, Tr.e, Tr.sub])
  | .l t, n + 1, S, h, ho => by
    simp only [Tr.ht] at h
    have ih := law_put_eq x hx o t n S (by omega) ho
    exact runD_0 (by simp [B__law_put, Tr.e, Tr.sub, ih])
  | .p a b, n + 1, S, h, ho => by
    simp only [Tr.ht] at h
    have i1 := law_put_eq x hx o a n S (by omega) ho.1
    have i2 := law_put_eq x hx o b n S (by omega) ho.2
    exact runD_0 (by simp [B__law_put, Tr.e, Tr.sub, i1, i2])
  | _, 0, _, h, _ => absurd h (Nat.not_lt_zero _)
/-! ### terms made of names -/
end Pg

set_option Elab.async false
set_option linter.all false
set_option maxRecDepth 100000
set_option maxHeartbeats 4000000
set_option exponentiation.threshold 1000
/-! k04, its mathematics, part t: the law's own steps. -/
namespace Pg
open PySem PySem.Spec PyProof.Rows L2 FW FwR
abbrev nx : List Nat := [120]
abbrev ny : List Nat := [121]
abbrev nab : List Nat := [97, 98]
abbrev na : List Nat := [97]
abbrev nb : List Nat := [98]
abbrev nq : List Nat := [113]
abbrev nz : List Nat := [122]
/-- all free names that there are -/
def F0 : List (List Nat) := [nx, ny, nab, na, nb, nq, nz]
theorem F0_word : ∀ w ∈ F0, Word w := by
  have : ∀ w ∈ F0, (∀ c ∈ w, 97 ≤ c ∧ c ≤ 122) ∧ 1 ≤ w.length ∧ w.length ≤ 8 := by decide +kernel
  exact fun w h => ⟨(this w h).1, (this w h).2.1, (this w h).2.2⟩
structure Good (t : Tr) (h s f : Nat) : Prop where
  cl : t.Cl 0
  nm : ∀ x ∈ t.free, x ∈ F0
  ht : t.ht ≤ h
  sz : t.size ≤ s
  fl : t.free.length ≤ f
theorem ok_of_names : ∀ t : Tr, (∀ x ∈ t.free, x ∈ F0) → t.Ok
  | .n x, h => (F0_word x (h x (by simp [Tr.free]))).ok
  | .v _, _ => trivial
  | .l t, h => ok_of_names t h
  | .p a b, h => ⟨ok_of_names a fun x hx => h x (List.mem_append_left _ hx), ok_of_names b fun x hx => h x (List.mem_append_right _ hx)⟩
theorem Good.ok {t : Tr} {h s f : Nat} (g : Good t h s f) : t.Ok := ok_of_names t g.nm
theorem Good.fit {t : Tr} {h s f : Nat} (g : Good t h s f) (hs : s < 1000) : Fit t F0 := ⟨g.ok, g.cl, by have := g.sz; omega, g.nm, by decide, by decide⟩
section
variable (T : Store) (q : SV) (c : Int) (v2 v3 v4 v5 v6 v7 v8 v9 v10 v11 : Option SV)
theorem w1_eq : ∃ P : Pu, P.Fw 0 ∧ w1 [some q, some (.sh (.int c)), v2, v3, v4, v5, v6, v7, v8, v9, v10, v11] T = some (.nx [some q, some (.sh (.int c)), some (.cl T.length), v3, v4, v5, v6, v7, v8, v9, v10, v11], T ++ [P.m]) := by
  obtain ⟨P, hP, e⟩ := purse_eq c 4 (by decide) T
  have e' : S__law_purse [.sh (.int c), .sh (.int 4)] T = some (.ok (.cl T.length), T ++ [P.m]) := e
  exact ⟨P, hP, by simp [w1, e']⟩
theorem w2_eq {P : Pu} (hP : P.Fw 0) : ∃ (t : Tr) (P' : Pu), Good t 5 47 16 ∧ P'.Fw 95 ∧ w2 [some q, some (.sh (.int c)), some (.cl T.length), v3, v4, v5, v6, v7, v8, v9, v10, v11] (T ++ [P.m]) = some (.nx [some q, some (.sh (.int c)), some (.cl T.length), some (.sh t.e), v4, v5, v6, v7, v8, v9, v10, v11], T ++ [P'.m]) := by
  have h0 : (T ++ [P.m])[T.length]? = some P.m := by simp
  obtain ⟨r, P1, r0, r1, f1, e1⟩ := take_eq h0 hP (by decide) 5 (by decide) (by decide)
  have s1 : (T ++ [P.m]).set T.length P1.m = T ++ [P1.m] := by simp
  rw [s1] at e1
  have h1 : (T ++ [P1.m])[T.length]? = some P1.m := by simp
  obtain ⟨r', P2, r0', r1', f2, e2⟩ := take_eq h1 f1 (by decide) 2 (by decide) (by decide)
  have s2 : (T ++ [P1.m]).set T.length P2.m = T ++ [P2.m] := by simp
  rw [s2] at e2
  have h2 : (T ++ [P2.m])[T.length]? = some P2.m := by simp
  have go : ∀ fr : List (List Nat), (∀ x ∈ fr, x ∈ F0) → fr.length < 100 → dIx (.lst [.lst [], .lst [.str "x", .str "y", .str "ab"]]) (.int r') = some (.val (.lst (wds fr))) → ∃ (t : Tr) (P' : Pu), Good t 5 47 16 ∧ P'.Fw 95 ∧ w2 [some q, some (.sh (.int c)), some (.cl T.length), v3, v4, v5, v6, v7, v8, v9, v10, v11] (T ++ [P.m]) = some (.nx [some q, some (.sh (.int c)), some (.cl T.length), some (.sh t.e), v4, v5, v6, v7, v8, v9, v10, v11], T ++ [P'.m]) := by
    intro fr hfr hl ei
    have hdeep : r.toNat ≤ 4 := by omega
    have hcost : cD r.toNat ≤ 93 := by
      have : ∀ j : Nat, j ≤ 4 → cD j ≤ 93 := fun j hj => by
        match j, hj with
        | 0, _ => decide
        | 1, _ => decide
        | 2, _ => decide
        | 3, _ => decide
        | 4, _ => decide
      exact this _ hdeep
    obtain ⟨t, P', hD, f', e'⟩ := drawn_eq T.length fr (fun w hw => (F0_word w (hfr w hw)).ok) (by omega) r.toNat 40 0 (0 + 1 + 1) (T ++ [P2.m]) P2 (by omega) h2 f2 (by omega) (by omega)
    have s3 : (T ++ [P2.m]).set T.length P'.m = T ++ [P'.m] := by simp
    rw [s3, Int.toNat_of_nonneg r0] at e'
    have e4 : S__law_drawn 40 [.cl T.length, .sh (.int r), .sh (.int 0), .sh (.lst (wds fr))] (T ++ [P2.m]) = some (.ok (.sh t.e), T ++ [P'.m]) := e'
    have hpow : 2 ^ r.toNat ≤ 16 := by
      have : 2 ^ r.toNat ≤ 2 ^ 4 := Nat.pow_le_pow_right (by decide) hdeep
      simpa using this
    refine ⟨t, P', ⟨hD.cl, fun x hx => hfr x (hD.nm x hx), by have := hD.ht; omega, by have := hD.sz; omega, by have := hD.fl; omega⟩, f'.mono (by omega), ?_⟩
    simp [w2, e1, e2, ei, e4]
  have c2 : r' = 0 ∨ r' = 1 := by omega
  rcases c2 with z | z
  · subst z
    exact go [] (by simp) (by decide) (by simp [wds])
  · subst z
    exact go [nx, ny, nab] (by decide) (by decide) (by
      rw [ix1]
      rfl)
theorem w3_eq {P : Pu} (hP : P.Fw 95) (v3 : Option SV) : ∃ (o : Tr) (P' : Pu), Good o 4 23 8 ∧ (∀ x ∈ o.free, x ≠ nz) ∧ P'.Fw 145 ∧ w3 [some q, some (.sh (.int c)), some (.cl T.length), v3, v4, v5, v6, v7, v8, v9, v10, v11] (T ++ [P.m]) = some (.nx [some q, some (.sh (.int c)), some (.cl T.length), v3, some (.sh o.e), v5, v6, v7, v8, v9, v10, v11], T ++ [P'.m]) := by
  have h0 : (T ++ [P.m])[T.length]? = some P.m := by simp
  obtain ⟨r, P1, r0, r1, f1, e1⟩ := take_eq h0 hP (by decide) 4 (by decide) (by decide)
  have s1 : (T ++ [P.m]).set T.length P1.m = T ++ [P1.m] := by simp
  rw [s1] at e1
  have h1 : (T ++ [P1.m])[T.length]? = some P1.m := by simp
  have hdeep : r.toNat ≤ 3 := by omega
  have hcost : cD r.toNat ≤ 45 := by
    have : ∀ j : Nat, j ≤ 3 → cD j ≤ 45 := fun j hj => by
      match j, hj with
      | 0, _ => decide
      | 1, _ => decide
      | 2, _ => decide
      | 3, _ => decide
    exact this _ hdeep
  have hfr : ∀ x ∈ ([na, nb, nq, ny] : List (List Nat)), x ∈ F0 := by decide
  obtain ⟨o, P', hD, f', e'⟩ := drawn_eq T.length [na, nb, nq, ny] (fun w hw => (F0_word w (hfr w hw)).ok) (by decide) r.toNat 40 0 (95 + 1) (T ++ [P1.m]) P1 (by omega) h1 f1 (by omega) (by omega)
  have s3 : (T ++ [P1.m]).set T.length P'.m = T ++ [P'.m] := by simp
  rw [s3, Int.toNat_of_nonneg r0] at e'
  have e4 : S__law_drawn 40 [.cl T.length, .sh (.int r), .sh (.int 0), .sh (.lst [.str "a", .str "b", .str "q", .str "y"])] (T ++ [P1.m]) = some (.ok (.sh o.e), T ++ [P'.m]) := e'
  have hpow : 2 ^ r.toNat ≤ 8 := by
    have : 2 ^ r.toNat ≤ 2 ^ 3 := Nat.pow_le_pow_right (by decide) hdeep
    simpa using this
  have em : mkL false [.sh (.str "a"), .sh (.str "b"), .sh (.str "q"), .sh (.str "y")] (T ++ [P1.m]) = some (.ok (.sh (.lst [.str "a", .str "b", .str "q", .str "y"])), T ++ [P1.m]) := ev_mkLF (xs := [.sh (.str "a"), .sh (.str "b"), .sh (.str "q"), .sh (.str "y")]) rfl (le_line (by decide : 4 ≤ 16777216))
  refine ⟨o, P', ⟨hD.cl, fun x hx => hfr x (hD.nm x hx), by have := hD.ht; omega, by have := hD.sz; omega, by have := hD.fl; omega⟩, fun x hx e => ?_, f'.mono (by omega), ?_⟩
  · have := hD.nm x hx
    rw [e] at this
    exact absurd this (by decide)
  · simp [w3, e1, em, e4]
theorem named_made {t : Tr} {h s f : Nat} (g : Good t h s f) (hh : h < 30) (hs : s < 200) {P : Pu} {n : Nat} (hP : P.Fw n) (hn : n < 1000) : ∃ (a : Nm) (P' : Pu), P'.Fw (n + 200) ∧ S__law_named 40 [.cl T.length, .sh t.e, .sh (.lst [])] (T ++ [P.m]) = some (.ok (.sh a.e), T ++ [P'.m]) ∧ S__law_made 40 [.sh a.e] (T ++ [P'.m]) = some (.ok (.sh (TM t)), T ++ [P'.m]) := by
  have h0 : (T ++ [P.m])[T.length]? = some P.m := by simp
  have g3 := g.ht
  have g4 := g.sz
  obtain ⟨a, P', t1, w1, hh1, f', e⟩ := named_eq T.length t 40 n [] (T ++ [P.m]) P (by omega) (by omega) (by omega) g.cl (fun x hx => F0_word x (g.nm x hx)) (by simp) (by simp; omega) h0 hP (by omega)
  have s3 : (T ++ [P.m]).set T.length P'.m = T ++ [P'.m] := by simp
  rw [s3] at e
  rw [out_id [] t 0 g.cl] at t1
  have em := law_made_eq a 40 (T ++ [P'.m]) (by omega) w1 (by rw [t1]; omega)
  rw [t1] at em
  exact ⟨a, P', f'.mono (by omega), e, em⟩
theorem w4_eq {t : Tr} (g : Good t 5 47 16) {P : Pu} (hP : P.Fw 145) (v4 : Option SV) : ∃ P' : Pu, P'.Fw 345 ∧ w4 [some q, some (.sh (.int c)), some (.cl T.length), some (.sh t.e), v4, v5, v6, v7, v8, v9, v10, v11] (T ++ [P.m]) = some (.nx [some q, some (.sh (.int c)), some (.cl T.length), some (.sh t.e), v4, some (.sh (TM t)), v6, v7, v8, v9, v10, v11], T ++ [P'.m]) := by
  obtain ⟨a, P', f', e1, e2⟩ := named_made T g (by decide) (by decide) hP (by decide)
  exact ⟨P', f', by simp [w4, e1, e2]⟩
theorem w5_eq {o : Tr} (g : Good o 4 23 8) {P : Pu} (hP : P.Fw 345) (v3 v5 : Option SV) : ∃ P' : Pu, P'.Fw 545 ∧ w5 [some q, some (.sh (.int c)), some (.cl T.length), v3, some (.sh o.e), v5, v6, v7, v8, v9, v10, v11] (T ++ [P.m]) = some (.nx [some q, some (.sh (.int c)), some (.cl T.length), v3, some (.sh o.e), v5, some (.sh (TM o)), v7, v8, v9, v10, v11], T ++ [P'.m]) := by
  obtain ⟨a, P', f', e1, e2⟩ := named_made T g (by decide) (by decide) hP (by decide)
  exact ⟨P', f', by simp [w5, e1, e2]⟩
theorem w6_eq {P : Pu} (hP : P.Fw 545) (v3 v4 v5 v6 : Option SV) : ∃ (x : List Nat) (P' : Pu), x ∈ [nx, ny, nab, nq, na] ∧ w6 [some q, some (.sh (.int c)), some (.cl T.length), v3, v4, v5, v6, v7, v8, v9, v10, v11] (T ++ [P.m]) = some (.nx [some q, some (.sh (.int c)), some (.cl T.length), v3, v4, v5, v6, some (.sh (.str (tx x))), v8, v9, v10, v11], T ++ [P'.m]) := by
  have h0 : (T ++ [P.m])[T.length]? = some P.m := by simp
  obtain ⟨r, P1, r0, r1, f1, e1⟩ := take_eq h0 hP (by decide) 5 (by decide) (by decide)
  have s1 : (T ++ [P.m]).set T.length P1.m = T ++ [P1.m] := by simp
  rw [s1] at e1
  have hr : r.toNat < ([nx, ny, nab, nq, na] : List (List Nat)).length := by show r.toNat < 5; omega
  have ei := dIx_wds (List.getElem?_eq_getElem hr)
  rw [Int.toNat_of_nonneg r0] at ei
  have ei' : dIx (.lst [.str "x", .str "y", .str "ab", .str "q", .str "a"]) (.int r) = some (.val (.str (tx ([nx, ny, nab, nq, na] : List (List Nat))[r.toNat]))) := ei
  refine ⟨([nx, ny, nab, nq, na] : List (List Nat))[r.toNat], P1, List.getElem_mem hr, ?_⟩
  generalize ([nx, ny, nab, nq, na] : List (List Nat))[r.toNat] = x at ei' ⊢
  have em : ∀ S : Store, mkL false [.sh (.str "x"), .sh (.str "y"), .sh (.str "ab"), .sh (.str "q"), .sh (.str "a")] S = some (.ok (.sh (.lst [.str "x", .str "y", .str "ab", .str "q", .str "a"])), S) := fun S => ev_mkLF (xs := [.sh (.str "x"), .sh (.str "y"), .sh (.str "ab"), .sh (.str "q"), .sh (.str "a")]) rfl (le_line (by decide : 5 ≤ 16777216))
  simp [w6, em, e1, ei']
end
end Pg

set_option Elab.async false
set_option linter.all false
set_option maxRecDepth 100000
set_option maxHeartbeats 4000000
set_option exponentiation.threshold 1000
/-! k04, its mathematics, part u: the law's checks. -/
namespace Pg
open PySem PySem.Spec PyProof.Rows L2 FW FwR
theorem size_pos : ∀ t : Tr, 0 < t.size
  | .n _ => Nat.zero_lt_one
  | .v _ => Nat.zero_lt_one
  | .l t => Nat.succ_pos _
  | .p a b => Nat.succ_pos _
theorem mul_bd {a b A B : Nat} (h1 : a ≤ A) (h2 : b ≤ B) : a * b ≤ A * B := Nat.mul_le_mul h1 h2
theorem sub_good {t o : Tr} {x : List Nat} (g : Good t 5 47 16) (h : Good o 4 23 8) : Good (t.sub x o) 9 415 1000 := by
  have h1 := sub_size x o t
  have h2 := sub_ht x o t
  have h3 := mul_bd g.fl h.sz
  have := g.sz
  have := g.ht
  have := h.ht
  have h4 : (t.sub x o).size ≤ 415 := by omega
  exact ⟨sub_cl x o h.cl t 0 g.cl, fun y hy => (sub_free x o t y hy).elim (g.nm y) (h.nm y), by omega, h4, by have := free_len (t.sub x o); omega⟩
section
variable (S : Store) (q c p : SV) (v2 v3 v4 v5 v6 v7 v8 v9 v10 v11 : Option SV) {t o : Tr} {x : List Nat} (g : Good t 5 47 16) (h : Good o 4 23 8) (hx : Word x)
include g h hx
theorem put1 : S_put_in [.sh (TM t), .sh (.str (tx x)), .sh (TM o)] S = some (.ok (.sh (TM (t.sub x o))), S) := by
  have h3 := mul_bd g.sz (show o.size + 1 ≤ 24 by have := h.sz; omega)
  have := h.sz
  exact put_in_eq t o x S hx g.ok g.cl h.cl (by omega)
theorem w7_eq : w7 [some q, some c, some p, some (.sh t.e), some (.sh o.e), v5, v6, some (.sh (.str (tx x))), v8, v9, v10, v11] S = some (.nx [some q, some c, some p, some (.sh t.e), some (.sh o.e), v5, v6, some (.sh (.str (tx x))), some (.sh (.str (tx (ptext (t.sub x o))))), v9, v10, v11], S) := by
  have e1 := law_put_eq x hx.ok o t 40 S (by have := g.ht; omega) g.ok
  have gs := sub_good (x := x) g h
  have e2 := law_text_eq (t.sub x o) F0 (gs.fit (by decide)) (by have := gs.ht; omega) S
  simp [w7, e1, e2]
theorem w8_eq : w8 [some q, some c, some p, v3, v4, some (.sh (TM t)), some (.sh (TM o)), some (.sh (.str (tx x))), some (.sh (.str (tx (ptext (t.sub x o))))), v9, v10, v11] S = some (.nx [some q, some c, some p, v3, v4, some (.sh (TM t)), some (.sh (TM o)), some (.sh (.str (tx x))), some (.sh (.str (tx (ptext (t.sub x o))))), v9, v10, v11], S) := by
  have e1 := put1 S g h hx
  have gs := sub_good (x := x) g h
  have e2 := ask_str (gs.fit (by decide)) S
  have e3 := dEq_text gs.ok
  have ep : permS [2, 1, 0] [SV.sh (TM o), SV.sh (.str (tx x)), SV.sh (TM t)] = [SV.sh (TM t), SV.sh (.str (tx x)), SV.sh (TM o)] := rfl
  simp [w8, e1, e2, e3, ep]
theorem w9_eq : w9 [some q, some c, some p, some (.sh t.e), some (.sh o.e), some (.sh (TM t)), some (.sh (TM o)), some (.sh (.str (tx x))), v8, v9, v10, v11] S = some (.nx [some q, some c, some p, some (.sh t.e), some (.sh o.e), some (.sh (TM t)), some (.sh (TM o)), some (.sh (.str (tx x))), v8, v9, v10, v11], S) := by
  have e0 := name_TM x S hx
  have h3 := mul_bd g.sz (show (Tr.n x).size + 1 ≤ 2 from Nat.le_refl _)
  have e1 := put_in_eq t (.n x) x S hx g.ok g.cl trivial (by simp [Tr.size] at h3 ⊢; omega)
  rw [sub_self] at e1
  have e2 := own_ne g.ok (rfl : t = t) S
  have e3 := ask_str (g.fit (by decide)) S
  have e4 := ask_str (h.fit (by decide)) S
  have e5 := law_text_eq t F0 (g.fit (by decide)) (by have := g.ht; omega) S
  have e6 := law_text_eq o F0 (h.fit (by decide)) (by have := h.ht; omega) S
  have e7 := dEq_text g.ok
  have e8 := dEq_text h.ok
  simp [w9, e0, e1, e2, e3, e4, e5, e6, e7, e8]
theorem w10_eq : w10 [some q, some c, some p, v3, v4, some (.sh (TM t)), some (.sh (TM o)), some (.sh (.str (tx x))), v8, v9, v10, v11] S = some (.nx [some q, some c, some p, v3, v4, some (.sh (TM t)), some (.sh (TM o)), some (.sh (.str (tx x))), v8, some (.sh (TM (t.sub x o))), v10, v11], S) := by
  have e1 := put1 S g h hx
  simp [w10, e1]
theorem w11_eq : w11 [some q, some c, some p, v3, some (.sh o.e), v5, v6, some (.sh (.str (tx x))), v8, some (.sh (TM (t.sub x o))), v10, v11] S = some (.nx [some q, some c, some p, v3, some (.sh o.e), v5, v6, some (.sh (.str (tx x))), v8, some (.sh (TM (t.sub x o))), v10, v11], S) := by
  have e1 := law_free_eq o 40 S (by have := h.ht; omega) (by have := h.sz; omega)
  have e2 := dInA_wds true x o.free
  have gs := sub_good (x := x) g h
  by_cases k : x ∈ o.free
  · simp [w11, e1, e2, k]
  · have ez : S_name [.sh (.str "z")] S = some (.ok (.sh (TM (.n nz))), S) := name_TM nz S (F0_word nz (by decide))
    have h3 := mul_bd gs.sz (show (Tr.n nz).size + 1 ≤ 2 from Nat.le_refl _)
    have e3 := put_in_eq (t.sub x o) (.n nz) x S hx gs.ok gs.cl trivial (by simp [Tr.size] at h3 ⊢; omega)
    rw [sub_sub x o (.n nz) k t] at e3
    have e4 := own_ne gs.ok (rfl : t.sub x o = t.sub x o) S
    simp [w11, e1, e2, k, ez, e3, e4]
theorem w12_eq : w12 [some q, some c, some p, v3, v4, some (.sh (TM t)), v6, v7, v8, v9, v10, v11] S = some (.nx [some q, some c, some p, v3, v4, some (.sh (TM t)), v6, v7, v8, v9, some (.sh (TM (.p (.l (t.abs nq 0)) t))), v11], S) := by
  have e1 : S_fun [.sh (.str "q"), .sh (TM t)] S = some (.ok (.sh (TM (.l (t.abs nq 0)))), S) := fun_TM nq t S (F0_word nq (by decide)) g.ok g.cl (by have := g.sz; omega)
  have e2 := put_TM (.l (t.abs nq 0)) t S (by simp only [Tr.size, abs_size]; have := g.sz; omega)
  simp [w12, e1, e2]
theorem w13_eq (hm : x ∈ F0) : w13 [some q, some c, some p, v3, some (.sh o.e), v5, some (.sh (TM o)), some (.sh (.str (tx x))), v8, some (.sh (TM (t.sub x o))), some (.sh (TM (.p (.l (t.abs nq 0)) t))), v11] S = some (.nx [some q, some c, some p, v3, some (.sh o.e), v5, some (.sh (TM o)), some (.sh (.str (tx x))), v8, some (.sh (TM (t.sub x o))), some (.sh (TM (.p (.l (t.abs nq 0)) t))), v11], S) := by
  have hq : Word nq := F0_word nq (by decide)
  have e0 : dEq true (.str (tx x)) (.str "q") = some (.val (.bl (!decide (x = nq)))) := by
    have := dEq_tt true hx.ok hq.ok
    rw [Bool.true_bne] at this
    exact this
  have e1 := law_free_eq o 40 S (by have := h.ht; omega) (by have := h.sz; omega)
  have e2 : dInA true (.str "q") (.lst (wds o.free)) = some (.val (.bl (true != decide (nq ∈ o.free)))) := dInA_wds true nq o.free
  have gs := sub_good (x := x) g h
  by_cases k : x = nq
  · subst k; simp [w13, e0]
  · by_cases k2 : nq ∈ o.free
    · simp [w13, e0, k, e1, e2, k2]
    · have e3 : S_fun [.sh (.str "q"), .sh (TM (t.sub x o))] S = some (.ok (.sh (TM (.l ((t.sub x o).abs nq 0)))), S) := fun_TM nq (t.sub x o) S hq gs.ok gs.cl (by have := gs.sz; omega)
      have e4 := put_TM (.l ((t.sub x o).abs nq 0)) (t.sub x o) S (by simp only [Tr.size, abs_size]; have := gs.sz; omega)
      have hw : (Tr.p (.l (t.abs nq 0)) t).size ≤ 100 := by simp only [Tr.size, abs_size]; have := g.sz; omega
      have h3 := mul_bd hw (show o.size + 1 ≤ 24 by have := h.sz; omega)
      have e5 := put_in_eq (.p (.l (t.abs nq 0)) t) o x S hx ⟨abs_ok nq t 0 g.ok, g.ok⟩ ⟨abs_cl nq t 0 g.cl, g.cl⟩ h.cl (by have := h.sz; omega)
      have es : (Tr.p (.l (t.abs nq 0)) t).sub x o = .p (.l ((t.sub x o).abs nq 0)) (t.sub x o) := by
        show Tr.p (.l ((t.abs nq 0).sub x o)) (t.sub x o) = _
        rw [abs_sub nq x o k2 k t 0]
      rw [es] at e5
      have e6 := own_ne (a := .p (.l ((t.sub x o).abs nq 0)) (t.sub x o)) ⟨abs_ok nq _ 0 gs.ok, gs.ok⟩ rfl S
      simp [w13, e0, k, e1, e2, k2, e3, e4, e5, e6]
theorem w14_eq : w14 [some q, some c, some p, v3, v4, v5, v6, some (.sh (.str (tx x))), v8, v9, v10, v11] S = some (.nx [some q, some c, some p, v3, v4, v5, v6, some (.sh (.str (tx x))), v8, v9, v10, some (.sh (TM (.l ((Tr.p (.n x) (.n na)).abs na 0))))], S) := by
  have ha : Word na := F0_word na (by decide)
  have e1 := name_TM x S hx
  have e2 : S_name [.sh (.str "a")] S = some (.ok (.sh (TM (.n na))), S) := name_TM na S ha
  have e3 := put_TM (.n x) (.n na) S (by simp [Tr.size])
  have e4 : S_fun [.sh (.str "a"), .sh (TM (.p (.n x) (.n na)))] S = some (.ok (.sh (TM (.l ((Tr.p (.n x) (.n na)).abs na 0)))), S) := fun_TM na (.p (.n x) (.n na)) S ha ⟨hx.ok, ha.ok⟩ ⟨trivial, trivial⟩ (by simp [Tr.size])
  simp [w14, e1, e2, e3, e4]
theorem w15_eq : w15 [some q, some c, some p, v3, some (.sh o.e), v5, some (.sh (TM o)), some (.sh (.str (tx x))), v8, v9, v10, some (.sh (TM (.l ((Tr.p (.n x) (.n na)).abs na 0))))] S = some (.nx [some q, some c, some p, v3, some (.sh o.e), v5, some (.sh (TM o)), some (.sh (.str (tx x))), v8, v9, v10, some (.sh (TM (.l ((Tr.p (.n x) (.n na)).abs na 0))))], S) := by
  have ha : Word na := F0_word na (by decide)
  have e0 : dEq true (.str (tx x)) (.str "a") = some (.val (.bl (!decide (x = na)))) := by
    have := dEq_tt true hx.ok ha.ok
    rw [Bool.true_bne] at this
    exact this
  by_cases k : x = na
  · subst k; simp [w15, e0]
  · have ea : (Tr.p (.n x) (.n na)).abs na 0 = .p (.n x) (.v 0) := by
      show Tr.p (if x = na then .v 0 else .n x) (if na = na then .v 0 else .n na) = _
      rw [if_neg k, if_pos rfl]
    rw [ea]
    have g2 : Good (.l (.p o (.v 0))) 10 100 100 := ⟨⟨cl_mono o h.cl (Nat.zero_le _), Nat.lt_succ_self 0⟩, fun y hy => by
      have hy' : y ∈ o.free ++ [] := hy
      rw [List.append_nil] at hy'
      exact h.nm y hy', by simp only [Tr.ht]; have := h.ht; omega, by simp only [Tr.size]; have := h.sz; omega, by
      show (o.free ++ []).length ≤ 100
      rw [List.append_nil]; have := h.fl; omega⟩
    have h3 := mul_bd (show (Tr.l (.p (.n x) (.v 0))).size ≤ 4 from Nat.le_refl _) (show o.size + 1 ≤ 24 by have := h.sz; omega)
    have e1 := put_in_eq (.l (.p (.n x) (.v 0))) o x S hx ⟨hx.ok, trivial⟩ ⟨trivial, Nat.lt_succ_self 0⟩ h.cl (by have := h.sz; omega)
    have es : (Tr.l (.p (.n x) (.v 0))).sub x o = .l (.p o (.v 0)) := by
      show Tr.l (.p (if x = x then o else .n x) (.v 0)) = _
      rw [if_pos rfl]
    rw [es] at e1
    have e2 := ask_str (g2.fit (by decide)) S
    have e3 : S__law_text [.sh (.lst [.str "l", .lst [.str "p", o.e, .lst [.str "v", .int 0]]])] S = some (.ok (.sh (.str (tx (ptext (.l (.p o (.v 0))))))), S) := law_text_eq (.l (.p o (.v 0))) F0 (g2.fit (by decide)) (by have := g2.ht; omega) S
    have e4 := dEq_text g2.ok
    simp [w15, e0, k, e1, e2, e3, e4]
end
end Pg

set_option Elab.async false
set_option linter.all false
set_option maxRecDepth 100000
set_option maxHeartbeats 4000000
set_option exponentiation.threshold 1000
/-! k04, its mathematics, part v: the law. -/
namespace Pg
open PySem PySem.Spec PyProof.Rows L2 FW FwR
theorem body_eq (T : Store) (q : SV) (c : Int) (v2 v3 v4 v5 v6 v7 v8 v9 v10 v11 : Option SV) :
    ∃ (a2 a3 a4 a5 a6 a7 a8 a9 a10 a11 : Option SV) (T' : Store), wBody [some q, some (.sh (.int c)), v2, v3, v4, v5, v6, v7, v8, v9, v10, v11] T = some (.nx [some q, some (.sh (.int c)), a2, a3, a4, a5, a6, a7, a8, a9, a10, a11], T') := by
  obtain ⟨P1, f1, e1⟩ := w1_eq T q c v2 v3 v4 v5 v6 v7 v8 v9 v10 v11
  obtain ⟨t, P2, g, f2, e2⟩ := w2_eq T q c v3 v4 v5 v6 v7 v8 v9 v10 v11 f1
  obtain ⟨o, P3, h, hz, f3, e3⟩ := w3_eq T q c v4 v5 v6 v7 v8 v9 v10 v11 f2 (some (.sh t.e))
  obtain ⟨P4, f4, e4⟩ := w4_eq T q c v5 v6 v7 v8 v9 v10 v11 g f3 (some (.sh o.e))
  obtain ⟨P5, f5, e5⟩ := w5_eq T q c v6 v7 v8 v9 v10 v11 h f4 (some (.sh t.e)) (some (.sh (TM t)))
  obtain ⟨x, P6, hx, e6⟩ := w6_eq T q c v7 v8 v9 v10 v11 f5 (some (.sh t.e)) (some (.sh o.e)) (some (.sh (TM t))) (some (.sh (TM o)))
  have hm : x ∈ F0 := by
    have : ∀ x ∈ ([nx, ny, nab, nq, na] : List (List Nat)), x ∈ F0 := by decide
    exact this x hx
  have hw := F0_word x hm
  have e7 := w7_eq (T ++ [P6.m]) q (.sh (.int c)) (.cl T.length) (some (.sh (TM t))) (some (.sh (TM o))) v8 v9 v10 v11 g h hw
  have e8 := w8_eq (T ++ [P6.m]) q (.sh (.int c)) (.cl T.length) (some (.sh t.e)) (some (.sh o.e)) v9 v10 v11 g h hw
  have e9 := w9_eq (T ++ [P6.m]) q (.sh (.int c)) (.cl T.length) (some (.sh (.str (tx (ptext (t.sub x o)))))) v9 v10 v11 g h hw
  have e10 := w10_eq (T ++ [P6.m]) q (.sh (.int c)) (.cl T.length) (some (.sh t.e)) (some (.sh o.e)) (some (.sh (.str (tx (ptext (t.sub x o)))))) v9 v10 v11 g h hw
  have e11 := w11_eq (T ++ [P6.m]) q (.sh (.int c)) (.cl T.length) (some (.sh t.e)) (some (.sh (TM t))) (some (.sh (TM o))) (some (.sh (.str (tx (ptext (t.sub x o)))))) v10 v11 g h hw
  have e12 := w12_eq (T ++ [P6.m]) q (.sh (.int c)) (.cl T.length) (some (.sh t.e)) (some (.sh o.e)) (some (.sh (TM o))) (some (.sh (.str (tx x)))) (some (.sh (.str (tx (ptext (t.sub x o)))))) (some (.sh (TM (t.sub x o)))) v10 v11 g h hw
  have e13 := w13_eq (T ++ [P6.m]) q (.sh (.int c)) (.cl T.length) (some (.sh t.e)) (some (.sh (TM t))) (some (.sh (.str (tx (ptext (t.sub x o)))))) v11 g h hw hm
  have e14 := w14_eq (T ++ [P6.m]) q (.sh (.int c)) (.cl T.length) (some (.sh t.e)) (some (.sh o.e)) (some (.sh (TM t))) (some (.sh (TM o))) (some (.sh (.str (tx (ptext (t.sub x o)))))) (some (.sh (TM (t.sub x o)))) (some (.sh (TM (.p (.l (t.abs nq 0)) t)))) v11 g h hw
  have e15 := w15_eq (T ++ [P6.m]) q (.sh (.int c)) (.cl T.length) (some (.sh t.e)) (some (.sh (TM t))) (some (.sh (.str (tx (ptext (t.sub x o)))))) (some (.sh (TM (t.sub x o)))) (some (.sh (TM (.p (.l (t.abs nq 0)) t)))) g h hw
  refine ⟨some (.cl T.length), some (.sh t.e), some (.sh o.e), some (.sh (TM t)), some (.sh (TM o)), some (.sh (.str (tx x))), some (.sh (.str (tx (ptext (t.sub x o))))), some (.sh (TM (t.sub x o))), some (.sh (TM (.p (.l (t.abs nq 0)) t))), some (.sh (TM (.l ((Tr.p (.n x) (.n na)).abs na 0)))), T ++ [P6.m], ?_⟩
  unfold wBody
  rw [seq_nx e1, seq_nx e2, seq_nx e3, seq_nx e4, seq_nx e5, seq_nx e6, seq_nx e7, seq_nx e8, seq_nx e9, seq_nx e10, seq_nx e11, seq_nx e12, seq_nx e13, seq_nx e14]
  exact e15
theorem loop_eq (q : SV) : ∀ (cs : List Int) (T : Store) (v1 v2 v3 v4 v5 v6 v7 v8 v9 v10 v11 : Option SV), ∃ (ρ : Sl) (T' : Store), forL (tgN 1) (wBody) (cs.map D.int) [some q, v1, v2, v3, v4, v5, v6, v7, v8, v9, v10, v11] T = some (.nx ρ, T')
  | [], T, v1, v2, v3, v4, v5, v6, v7, v8, v9, v10, v11 => ⟨_, _, rfl⟩
  | c :: cs, T, v1, v2, v3, v4, v5, v6, v7, v8, v9, v10, v11 => by
    obtain ⟨a2, a3, a4, a5, a6, a7, a8, a9, a10, a11, T1, e⟩ := body_eq T q c v2 v3 v4 v5 v6 v7 v8 v9 v10 v11
    obtain ⟨ρ, T', ih⟩ := loop_eq q cs T1 (some (.sh (.int c))) a2 a3 a4 a5 a6 a7 a8 a9 a10 a11
    refine ⟨ρ, T', ?_⟩
    rw [← ih]
    exact forL_nx (g := tgN 1) (ss := [some q, v1, v2, v3, v4, v5, v6, v7, v8, v9, v10, v11]) (d := .int c) rfl e
theorem it_eq (ns : List Int) (v : List (Option SV)) : ∃ z : Int, wIt (some (.sh (.scr (ns.map D.int))) :: v) [] = some (.ok ((ns.take 5 ++ [z]).map D.int), []) := by
  have e1 : dSl none (some 5) (.scr (ns.map D.int)) = some (.lst ((ns.map D.int).take 5)) := by
    show some (An.lst (FW.cutD _ _ _)) = _
    rw [show (5 : Int) = ((5 : Nat) : Int) from rfl, cut_nat]
  have el : dLen (.scr (ns.map D.int)) = some (.val (.int ns.length)) := by simp [dLen, seqD]
  have ea : ∃ z : Int, S__law_at [.sh (.scr (ns.map D.int)), .sh (.int 4)] [] = some (.ok (.sh (.int z)), []) := by
    by_cases c : 4 < ns.length
    · have e2 : dLt (.int 4) (.int ns.length) = some (.val (.bl true)) := by
        show some (An.val (D.bl (decide ((4 : Int) < ns.length)))) = _
        rw [decide_eq_true (by omega)]
      have e3 : dIx (.scr (ns.map D.int)) (.int 4) = some (.val (.int ns[4])) := by
        show ((seqD (.scr (ns.map D.int))).bind fun ds => (atI ds (4 : Int)).map An.val) = _
        have : atI (ns.map D.int) (((4 : Nat) : Int)) = some (.int ns[4]) := atI_nat (by rw [List.getElem?_map, List.getElem?_eq_getElem c]; rfl)
        simp only [seqD, Option.bind_some]
        rw [show (4 : Int) = ((4 : Nat) : Int) from rfl, this]; rfl
      exact ⟨ns[4], runD_0 (by simp [B__law_at, on1, el, e2, e3])⟩
    · have e2 : dLt (.int 4) (.int ns.length) = some (.val (.bl false)) := by
        show some (An.val (D.bl (decide ((4 : Int) < ns.length)))) = _
        rw [decide_eq_false (by omega)]
      have e3 := mul_ok (i := 3) (j := 4) (by decide) (by decide)
      exact ⟨13, runD_0 (by simp [B__law_at, on1, el, e2, e3, dAdd_ii])⟩
  obtain ⟨z, ez⟩ := ea
  have ed := dAdd_ll (a := (ns.map D.int).take 5) (b := [.int z]) (by
    rw [List.length_take]; simp; omega)
  refine ⟨z, ?_⟩
  have e9 : (ns.take 5 ++ [z]).map D.int = (ns.map D.int).take 5 ++ [.int z] := by rw [List.map_append, List.map_take]; rfl
  rw [e9]
  simp [wIt, itL, bSl, oN, oS, s1, e1, ez, ed, frz]
theorem math : ∀ (ns : List Int), ns.length ≤ 63 → (∀ z ∈ ns, Builtin.Int.intBits z ≤ 1048576) → ∃ S', S_law [.sh (.scr (ns.map D.int))] [] = some (.ok (.sh (.bl true)), S') := by
  intro ns _ _
  obtain ⟨z, ei⟩ := it_eq ns (List.replicate 11 none)
  obtain ⟨ρ, T', el⟩ := loop_eq (.sh (.scr (ns.map D.int))) (ns.take 5 ++ [z]) [] none none none none none none none none none none none
  refine ⟨[], runD_own (S := []) T' ?_⟩
  rw [B_law_split]
  have ei' : wIt [some (.sh (.scr (ns.map D.int))), none, none, none, none, none, none, none, none, none, none, none] [] = some (.ok ((ns.take 5 ++ [z]).map D.int), []) := ei
  have ef : gFor (wIt) (tgN 1) (wBody) [some (.sh (.scr (ns.map D.int))), none, none, none, none, none, none, none, none, none, none, none] [] = some (.nx ρ, T') := by
    unfold gFor
    rw [ev_exS, ei']
    exact el
  show gSeq _ _ [some (.sh (.scr (ns.map D.int))), none, none, none, none, none, none, none, none, none, none, none] [] = _
  rw [seq_nx ef]
  rfl
end Pg

set_option Elab.async false
set_option linter.all false
set_option maxRecDepth 100000
set_option maxHeartbeats 4000000
/-! k04_names_exchanged_for_terms: what the top has made, found by the walk of the head. Printed by gen.py. -/
namespace Pg
open PySem PySem.Spec PyProof.Rows L2 FW FwR
theorem clsIn_of {K : PySem.W.Frag} {C : Addr} (h : PySem.W.hasDictIn K C = true) : (PySem.W.clsIn K C).isSome = true := by
  obtain ⟨cd, hc, _⟩ := PySem.W.any_some h
  unfold PySem.W.clsIn
  unfold PySem.W.clsIn at hc
  rw [hc]; rfl
/-- what is to be shown of the reading alone -/
def Math : Prop := ∀ (ns : List Int), ns.length ≤ 63 → (∀ z ∈ ns, Builtin.Int.intBits z ≤ 1048576) → ∃ S', S_law [.sh (.scr (ns.map D.int))] [] = some (.ok (.sh (.bl true)), S')
def spLaw (K : PySem.W.Frag) : Sp := fun vs H Q _ => ∃ (p : Addr) (ns : List Int), vs = [.ref p] ∧ SqL K H p (ns.map V.int) ∧ ns.length ≤ 63 ∧ (∀ z ∈ ns, Builtin.Int.intBits z ≤ 1048576) ∧ ∀ v H', v = .bl true → Q v H'
theorem start_law {K : KW} {H : Hp} : SRel K H ⟨[], fun _ => none⟩ [] H := ⟨Same.refl H, List.nodup_nil, rfl, fun a h => (by cases h), fun k a m h => (by cases h), fun a o h => (by cases h)⟩
theorem sp_law {P : Program} {w : World} {K : PySem.W.Frag} (hM : Math) (vs : List V) (H : Hp) (Q : VK) (E : XK) (h : spLaw K vs H Q E) : spG ⟨K, P, w⟩ 1 S_law vs H Q E := by
  obtain ⟨p, ns, rfl, hS, hl, hb, k⟩ := h
  obtain ⟨S', hs⟩ := hM ns hl hb
  exact ⟨H, ⟨[], fun _ => none⟩, [], _, _, S', start_law, .cons (show VRel ⟨K, P, w⟩ H ⟨[], fun _ => none⟩ (.ref p) (.sh (.scr (ns.map D.int))) from Rep.scr hS (RepL.ints ns)) .nil, rfl, hs, fun F' as' H' e s v r => k v H' (Rep.bl_of r)⟩
theorem all_mk {l : PySem.W.OpenLaw} {w : World} {K : PySem.W.Frag} {h : Heap} {mg : Str → Option Value} {fa C fL X_NoWord f__law_mixed f__law_purse f__law_take f__law_leaf f__law_drawn f_is_letter f_is_word f_check_word f_Term___init__ f_is_level f_raised f_fun f_name f_put f__law_made f__law_written f__law_words f__law_free f__law_text f_depths f_all_put_in f_put_in f__law_at f__law_used f__law_binder f__law_named f__law_put f_Term___eq__ f_nth_word f_spare_words f_free_words f_told_words f_needs_brackets f_text_pieces f_Term___str__ f_law : Addr} (hM : Math) (X : K.In h) (G : h.Ns mainGlobals mg) (hfa : mg "law" = some (.ref fa))
    {od0 an0 od1 an1 od2 an2 od3 an3 od4 an4 od5 an5 od6 an6 od7 an7 od8 an8 od9 an9 od10 an10 od11 an11 od12 an12 od13 an13 od14 an14 od15 an15 od16 an16 od17 an17 od18 an18 od19 an19 od20 an20 od21 an21 od22 an22 od23 an23 od24 an24 od25 an25 od26 an26 od27 an27 od28 an28 od29 an29 od30 an30 od31 an31 od32 an32 od33 an33 od34 an34 od35 an35 : Option Addr} {sl0 sl1 sl2 sl3 sl4 sl5 sl6 sl7 sl8 sl9 sl10 sl11 sl12 sl13 sl14 sl15 sl16 sl17 sl18 sl19 sl20 sl21 sl22 sl23 sl24 sl25 sl26 sl27 sl28 sl29 sl30 sl31 sl32 sl33 sl34 sl35 : Array (Option Value)} {oc0 kV0 dc0 pm0 cd0 ct0 oc1 kV1 dc1 pm1 cd1 ct1 oc2 kV2 dc2 pm2 cd2 ct2 oc3 kV3 dc3 pm3 cd3 ct3 oc4 kV4 dc4 pm4 cd4 ct4 oc5 kV5 dc5 pm5 cd5 ct5 oc6 kV6 dc6 pm6 cd6 ct6 oc7 kV7 dc7 pm7 cd7 ct7 oc8 kV8 dc8 pm8 cd8 ct8 oc9 kV9 dc9 pm9 cd9 ct9 oc10 kV10 dc10 pm10 cd10 ct10 oc11 kV11 dc11 pm11 cd11 ct11 oc12 kV12 dc12 pm12 cd12 ct12 oc13 kV13 dc13 pm13 cd13 ct13 oc14 kV14 dc14 pm14 cd14 ct14 oc15 kV15 dc15 pm15 cd15 ct15 oc16 kV16 dc16 pm16 cd16 ct16 oc17 kV17 dc17 pm17 cd17 ct17 oc18 kV18 dc18 pm18 cd18 ct18 oc19 kV19 dc19 pm19 cd19 ct19 oc20 kV20 dc20 pm20 cd20 ct20 oc21 kV21 dc21 pm21 cd21 ct21 oc22 kV22 dc22 pm22 cd22 ct22 oc23 kV23 dc23 pm23 cd23 ct23 oc24 kV24 dc24 pm24 cd24 ct24 oc25 kV25 dc25 pm25 cd25 ct25 oc26 kV26 dc26 pm26 cd26 ct26 oc27 kV27 dc27 pm27 cd27 ct27 oc28 kV28 dc28 pm28 cd28 ct28 oc29 kV29 dc29 pm29 cd29 ct29 oc30 kV30 dc30 pm30 cd30 ct30 oc31 kV31 dc31 pm31 cd31 ct31 oc32 kV32 dc32 pm32 cd32 ct32 oc33 kV33 dc33 pm33 cd33 ct33 oc34 kV34 dc34 pm34 cd34 ct34 oc35 kV35 dc35 pm35 cd35 ct35 : Value} {t_ARGUMENT t_FUN t_FUNCTION t_LETTERS t_LONGEST t_PUT t_WHOLE : Tok}
    (aC : PySem.W.nsIn K mainGlobals "Term" = some (some (.ref C)))
    (pg : PySem.W.plainGet K C Str.empty = true)
    (hd : PySem.W.hasDictIn K C = true)
    (po : PySem.W.plainOver K C = true)
    (sa : PySem.W.findIn K (.ref C) "__setattr__" = some (some (.builtin "object.__setattr__")))
    (nP : PySem.W.findIn K (.ref C) "parts" = some none)
    (mkI : PySem.W.makesIn K C = true)
    (kpC : PySem.W.keepIn K (.ref C) = true)
    (aL : PySem.W.findIn K (.ref C) "__len__" = some (some (.ref fL)))
    (iL : PySem.W.isFn K (.ref fL) = true)
    (mro : PySem.W.mroIn K C (.type "object") = some true)
    (ne : PySem.W.findIn K (.ref C) "__ne__" = some (some (.builtin "object.__ne__")))
    (ha : PySem.W.findIn K (.ref C) "__class__" = some (some (.builtin "object.__class__")))
    (hn : PySem.W.specialIn K (.builtin "object.__class__") "__get__" = some (some (.builtin "getset_descriptor.__get__")))
    (htk : PySem.W.takesIn K (.builtin "object.__class__") = some true)
    (k1 : PySem.W.kitOne K (.ref C) (.ref C) = some true)
    (k0NoneType : PySem.W.kitOne K (.type "NoneType") (.ref C) = some false)
    (k0bool : PySem.W.kitOne K (.type "bool") (.ref C) = some false)
    (k0int : PySem.W.kitOne K (.type "int") (.ref C) = some false)
    (k0str : PySem.W.kitOne K (.type "str") (.ref C) = some false)
    (k0list : PySem.W.kitOne K (.type "list") (.ref C) = some false)
    (k0tuple : PySem.W.kitOne K (.type "tuple") (.ref C) = some false)
    (kbbool : PySem.W.kitOne K (.ref C) (.type "bool") = some false)
    (kbint : PySem.W.kitOne K (.ref C) (.type "int") = some false)
    (kbstr : PySem.W.kitOne K (.ref C) (.type "str") = some false)
    (kblist : PySem.W.kitOne K (.ref C) (.type "list") = some false)
    (kbtuple : PySem.W.kitOne K (.ref C) (.type "tuple") = some false)
    (nfNoneType : PySem.W.notFirst K C (.type "NoneType") = true)
    (nfbool : PySem.W.notFirst K C (.type "bool") = true)
    (nfint : PySem.W.notFirst K C (.type "int") = true)
    (nfstr : PySem.W.notFirst K C (.type "str") = true)
    (nflist : PySem.W.notFirst K C (.type "list") = true)
    (nftuple : PySem.W.notFirst K C (.type "tuple") = true)
    (z_all : PySem.W.nsIn K mainGlobals "all" = some none)
    (z_divmod : PySem.W.nsIn K mainGlobals "divmod" = some none)
    (z_int : PySem.W.nsIn K mainGlobals "int" = some none)
    (z_isinstance : PySem.W.nsIn K mainGlobals "isinstance" = some none)
    (z_len : PySem.W.nsIn K mainGlobals "len" = some none)
    (z_list : PySem.W.nsIn K mainGlobals "list" = some none)
    (z_max : PySem.W.nsIn K mainGlobals "max" = some none)
    (z_reversed : PySem.W.nsIn K mainGlobals "reversed" = some none)
    (z_set : PySem.W.nsIn K mainGlobals "set" = some none)
    (z_sorted : PySem.W.nsIn K mainGlobals "sorted" = some none)
    (z_str : PySem.W.nsIn K mainGlobals "str" = some none)
    (z_tuple : PySem.W.nsIn K mainGlobals "tuple" = some none)
    (z_zip : PySem.W.nsIn K mainGlobals "zip" = some none)
    (x_NoWord : PySem.W.nsIn K mainGlobals "NoWord" = some (some (.ref X_NoWord)))
    (xx_NoWord : PySem.W.excIn K X_NoWord [.type "ValueError", .type "Exception", .type "BaseException", .type "object"] "ValueError.__new__" = true)
    (xk_NoWord : PySem.W.keepIn K (.ref X_NoWord) = true)
    (xs_NoWord : PySem.W.subIn K (.ref X_NoWord) (.type "BaseException") = some true)
    (xt_NoWord : PySem.W.typeIn K (.ref X_NoWord) = some (.type "type"))
    (g_ARGUMENT : PySem.W.nsIn K mainGlobals "ARGUMENT" = some (some (.str "argument" t_ARGUMENT)))
    (g_FUN : PySem.W.nsIn K mainGlobals "FUN" = some (some (.int (-1) t_FUN)))
    (g_FUNCTION : PySem.W.nsIn K mainGlobals "FUNCTION" = some (some (.str "function" t_FUNCTION)))
    (g_LETTERS : PySem.W.nsIn K mainGlobals "LETTERS" = some (some (.str "abcdefghijklmnopqrstuvwxyz" t_LETTERS)))
    (g_LONGEST : PySem.W.nsIn K mainGlobals "LONGEST" = some (some (.int (8) t_LONGEST)))
    (g_PUT : PySem.W.nsIn K mainGlobals "PUT" = some (some (.int (-2) t_PUT)))
    (g_WHOLE : PySem.W.nsIn K mainGlobals "WHOLE" = some (some (.str "whole" t_WHOLE)))
    (a__law_mixed : PySem.W.nsIn K mainGlobals "_law_mixed" = some (some (.ref f__law_mixed)))
    (l__law_mixed : K.lookup f__law_mixed = some ⟨oc0, od0, .func (PySem.W.fnOf "_law_mixed" "_law_mixed" (defArgs st__law_mixed) (defBody st__law_mixed) (defScope st__law_mixed) .none kV0 dc0 pm0 an0 cd0 ct0), sl0⟩)
    (c__law_mixed : PySem.W.codeIn K cd0 "_law_mixed" = true)
    (k__law_mixed : PySem.W.keepIn K (.ref f__law_mixed) = true)
    (a__law_purse : PySem.W.nsIn K mainGlobals "_law_purse" = some (some (.ref f__law_purse)))
    (l__law_purse : K.lookup f__law_purse = some ⟨oc1, od1, .func (PySem.W.fnOf "_law_purse" "_law_purse" (defArgs st__law_purse) (defBody st__law_purse) (defScope st__law_purse) .none kV1 dc1 pm1 an1 cd1 ct1), sl1⟩)
    (c__law_purse : PySem.W.codeIn K cd1 "_law_purse" = true)
    (k__law_purse : PySem.W.keepIn K (.ref f__law_purse) = true)
    (a__law_take : PySem.W.nsIn K mainGlobals "_law_take" = some (some (.ref f__law_take)))
    (l__law_take : K.lookup f__law_take = some ⟨oc2, od2, .func (PySem.W.fnOf "_law_take" "_law_take" (defArgs st__law_take) (defBody st__law_take) (defScope st__law_take) .none kV2 dc2 pm2 an2 cd2 ct2), sl2⟩)
    (c__law_take : PySem.W.codeIn K cd2 "_law_take" = true)
    (k__law_take : PySem.W.keepIn K (.ref f__law_take) = true)
    (a__law_leaf : PySem.W.nsIn K mainGlobals "_law_leaf" = some (some (.ref f__law_leaf)))
    (l__law_leaf : K.lookup f__law_leaf = some ⟨oc3, od3, .func (PySem.W.fnOf "_law_leaf" "_law_leaf" (defArgs st__law_leaf) (defBody st__law_leaf) (defScope st__law_leaf) .none kV3 dc3 pm3 an3 cd3 ct3), sl3⟩)
    (c__law_leaf : PySem.W.codeIn K cd3 "_law_leaf" = true)
    (k__law_leaf : PySem.W.keepIn K (.ref f__law_leaf) = true)
    (a__law_drawn : PySem.W.nsIn K mainGlobals "_law_drawn" = some (some (.ref f__law_drawn)))
    (l__law_drawn : K.lookup f__law_drawn = some ⟨oc4, od4, .func (PySem.W.fnOf "_law_drawn" "_law_drawn" (defArgs st__law_drawn) (defBody st__law_drawn) (defScope st__law_drawn) .none kV4 dc4 pm4 an4 cd4 ct4), sl4⟩)
    (c__law_drawn : PySem.W.codeIn K cd4 "_law_drawn" = true)
    (k__law_drawn : PySem.W.keepIn K (.ref f__law_drawn) = true)
    (a_is_letter : PySem.W.nsIn K mainGlobals "is_letter" = some (some (.ref f_is_letter)))
    (l_is_letter : K.lookup f_is_letter = some ⟨oc5, od5, .func (PySem.W.fnOf "is_letter" "is_letter" (defArgs st_is_letter) (defBody st_is_letter) (defScope st_is_letter) .none kV5 dc5 pm5 an5 cd5 ct5), sl5⟩)
    (c_is_letter : PySem.W.codeIn K cd5 "is_letter" = true)
    (k_is_letter : PySem.W.keepIn K (.ref f_is_letter) = true)
    (a_is_word : PySem.W.nsIn K mainGlobals "is_word" = some (some (.ref f_is_word)))
    (l_is_word : K.lookup f_is_word = some ⟨oc6, od6, .func (PySem.W.fnOf "is_word" "is_word" (defArgs st_is_word) (defBody st_is_word) (defScope st_is_word) .none kV6 dc6 pm6 an6 cd6 ct6), sl6⟩)
    (c_is_word : PySem.W.codeIn K cd6 "is_word" = true)
    (k_is_word : PySem.W.keepIn K (.ref f_is_word) = true)
    (a_check_word : PySem.W.nsIn K mainGlobals "check_word" = some (some (.ref f_check_word)))
    (l_check_word : K.lookup f_check_word = some ⟨oc7, od7, .func (PySem.W.fnOf "check_word" "check_word" (defArgs st_check_word) (defBody st_check_word) (defScope st_check_word) .none kV7 dc7 pm7 an7 cd7 ct7), sl7⟩)
    (c_check_word : PySem.W.codeIn K cd7 "check_word" = true)
    (k_check_word : PySem.W.keepIn K (.ref f_check_word) = true)
    (a_Term___init__ : PySem.W.findIn K (.ref C) "__init__" = some (some (.ref f_Term___init__)))
    (i_Term___init__ : PySem.W.isFn K (.ref f_Term___init__) = true)
    (l_Term___init__ : K.lookup f_Term___init__ = some ⟨oc8, od8, .func (PySem.W.fnOf "__init__" "Term.__init__" (defArgs st_Term___init__) (defBody st_Term___init__) (defScope st_Term___init__) .none kV8 dc8 pm8 an8 cd8 ct8), sl8⟩)
    (c_Term___init__ : PySem.W.codeIn K cd8 "Term.__init__" = true)
    (k_Term___init__ : PySem.W.keepIn K (.ref f_Term___init__) = true)
    (a_is_level : PySem.W.nsIn K mainGlobals "is_level" = some (some (.ref f_is_level)))
    (l_is_level : K.lookup f_is_level = some ⟨oc9, od9, .func (PySem.W.fnOf "is_level" "is_level" (defArgs st_is_level) (defBody st_is_level) (defScope st_is_level) .none kV9 dc9 pm9 an9 cd9 ct9), sl9⟩)
    (c_is_level : PySem.W.codeIn K cd9 "is_level" = true)
    (k_is_level : PySem.W.keepIn K (.ref f_is_level) = true)
    (a_raised : PySem.W.nsIn K mainGlobals "raised" = some (some (.ref f_raised)))
    (l_raised : K.lookup f_raised = some ⟨oc10, od10, .func (PySem.W.fnOf "raised" "raised" (defArgs st_raised) (defBody st_raised) (defScope st_raised) .none kV10 dc10 pm10 an10 cd10 ct10), sl10⟩)
    (c_raised : PySem.W.codeIn K cd10 "raised" = true)
    (k_raised : PySem.W.keepIn K (.ref f_raised) = true)
    (a_fun : PySem.W.nsIn K mainGlobals "fun" = some (some (.ref f_fun)))
    (l_fun : K.lookup f_fun = some ⟨oc11, od11, .func (PySem.W.fnOf "fun" "fun" (defArgs st_fun) (defBody st_fun) (defScope st_fun) .none kV11 dc11 pm11 an11 cd11 ct11), sl11⟩)
    (c_fun : PySem.W.codeIn K cd11 "fun" = true)
    (k_fun : PySem.W.keepIn K (.ref f_fun) = true)
    (a_name : PySem.W.nsIn K mainGlobals "name" = some (some (.ref f_name)))
    (l_name : K.lookup f_name = some ⟨oc12, od12, .func (PySem.W.fnOf "name" "name" (defArgs st_name) (defBody st_name) (defScope st_name) .none kV12 dc12 pm12 an12 cd12 ct12), sl12⟩)
    (c_name : PySem.W.codeIn K cd12 "name" = true)
    (k_name : PySem.W.keepIn K (.ref f_name) = true)
    (a_put : PySem.W.nsIn K mainGlobals "put" = some (some (.ref f_put)))
    (l_put : K.lookup f_put = some ⟨oc13, od13, .func (PySem.W.fnOf "put" "put" (defArgs st_put) (defBody st_put) (defScope st_put) .none kV13 dc13 pm13 an13 cd13 ct13), sl13⟩)
    (c_put : PySem.W.codeIn K cd13 "put" = true)
    (k_put : PySem.W.keepIn K (.ref f_put) = true)
    (a__law_made : PySem.W.nsIn K mainGlobals "_law_made" = some (some (.ref f__law_made)))
    (l__law_made : K.lookup f__law_made = some ⟨oc14, od14, .func (PySem.W.fnOf "_law_made" "_law_made" (defArgs st__law_made) (defBody st__law_made) (defScope st__law_made) .none kV14 dc14 pm14 an14 cd14 ct14), sl14⟩)
    (c__law_made : PySem.W.codeIn K cd14 "_law_made" = true)
    (k__law_made : PySem.W.keepIn K (.ref f__law_made) = true)
    (a__law_written : PySem.W.nsIn K mainGlobals "_law_written" = some (some (.ref f__law_written)))
    (l__law_written : K.lookup f__law_written = some ⟨oc15, od15, .func (PySem.W.fnOf "_law_written" "_law_written" (defArgs st__law_written) (defBody st__law_written) (defScope st__law_written) .none kV15 dc15 pm15 an15 cd15 ct15), sl15⟩)
    (c__law_written : PySem.W.codeIn K cd15 "_law_written" = true)
    (k__law_written : PySem.W.keepIn K (.ref f__law_written) = true)
    (a__law_words : PySem.W.nsIn K mainGlobals "_law_words" = some (some (.ref f__law_words)))
    (l__law_words : K.lookup f__law_words = some ⟨oc16, od16, .func (PySem.W.fnOf "_law_words" "_law_words" (defArgs st__law_words) (defBody st__law_words) (defScope st__law_words) .none kV16 dc16 pm16 an16 cd16 ct16), sl16⟩)
    (c__law_words : PySem.W.codeIn K cd16 "_law_words" = true)
    (k__law_words : PySem.W.keepIn K (.ref f__law_words) = true)
    (a__law_free : PySem.W.nsIn K mainGlobals "_law_free" = some (some (.ref f__law_free)))
    (l__law_free : K.lookup f__law_free = some ⟨oc17, od17, .func (PySem.W.fnOf "_law_free" "_law_free" (defArgs st__law_free) (defBody st__law_free) (defScope st__law_free) .none kV17 dc17 pm17 an17 cd17 ct17), sl17⟩)
    (c__law_free : PySem.W.codeIn K cd17 "_law_free" = true)
    (k__law_free : PySem.W.keepIn K (.ref f__law_free) = true)
    (a__law_text : PySem.W.nsIn K mainGlobals "_law_text" = some (some (.ref f__law_text)))
    (l__law_text : K.lookup f__law_text = some ⟨oc18, od18, .func (PySem.W.fnOf "_law_text" "_law_text" (defArgs st__law_text) (defBody st__law_text) (defScope st__law_text) .none kV18 dc18 pm18 an18 cd18 ct18), sl18⟩)
    (c__law_text : PySem.W.codeIn K cd18 "_law_text" = true)
    (k__law_text : PySem.W.keepIn K (.ref f__law_text) = true)
    (a_depths : PySem.W.nsIn K mainGlobals "depths" = some (some (.ref f_depths)))
    (l_depths : K.lookup f_depths = some ⟨oc19, od19, .func (PySem.W.fnOf "depths" "depths" (defArgs st_depths) (defBody st_depths) (defScope st_depths) .none kV19 dc19 pm19 an19 cd19 ct19), sl19⟩)
    (c_depths : PySem.W.codeIn K cd19 "depths" = true)
    (k_depths : PySem.W.keepIn K (.ref f_depths) = true)
    (a_all_put_in : PySem.W.nsIn K mainGlobals "all_put_in" = some (some (.ref f_all_put_in)))
    (l_all_put_in : K.lookup f_all_put_in = some ⟨oc20, od20, .func (PySem.W.fnOf "all_put_in" "all_put_in" (defArgs st_all_put_in) (defBody st_all_put_in) (defScope st_all_put_in) .none kV20 dc20 pm20 an20 cd20 ct20), sl20⟩)
    (c_all_put_in : PySem.W.codeIn K cd20 "all_put_in" = true)
    (k_all_put_in : PySem.W.keepIn K (.ref f_all_put_in) = true)
    (a_put_in : PySem.W.nsIn K mainGlobals "put_in" = some (some (.ref f_put_in)))
    (l_put_in : K.lookup f_put_in = some ⟨oc21, od21, .func (PySem.W.fnOf "put_in" "put_in" (defArgs st_put_in) (defBody st_put_in) (defScope st_put_in) .none kV21 dc21 pm21 an21 cd21 ct21), sl21⟩)
    (c_put_in : PySem.W.codeIn K cd21 "put_in" = true)
    (k_put_in : PySem.W.keepIn K (.ref f_put_in) = true)
    (a__law_at : PySem.W.nsIn K mainGlobals "_law_at" = some (some (.ref f__law_at)))
    (l__law_at : K.lookup f__law_at = some ⟨oc22, od22, .func (PySem.W.fnOf "_law_at" "_law_at" (defArgs st__law_at) (defBody st__law_at) (defScope st__law_at) .none kV22 dc22 pm22 an22 cd22 ct22), sl22⟩)
    (c__law_at : PySem.W.codeIn K cd22 "_law_at" = true)
    (k__law_at : PySem.W.keepIn K (.ref f__law_at) = true)
    (a__law_used : PySem.W.nsIn K mainGlobals "_law_used" = some (some (.ref f__law_used)))
    (l__law_used : K.lookup f__law_used = some ⟨oc23, od23, .func (PySem.W.fnOf "_law_used" "_law_used" (defArgs st__law_used) (defBody st__law_used) (defScope st__law_used) .none kV23 dc23 pm23 an23 cd23 ct23), sl23⟩)
    (c__law_used : PySem.W.codeIn K cd23 "_law_used" = true)
    (k__law_used : PySem.W.keepIn K (.ref f__law_used) = true)
    (a__law_binder : PySem.W.nsIn K mainGlobals "_law_binder" = some (some (.ref f__law_binder)))
    (l__law_binder : K.lookup f__law_binder = some ⟨oc24, od24, .func (PySem.W.fnOf "_law_binder" "_law_binder" (defArgs st__law_binder) (defBody st__law_binder) (defScope st__law_binder) .none kV24 dc24 pm24 an24 cd24 ct24), sl24⟩)
    (c__law_binder : PySem.W.codeIn K cd24 "_law_binder" = true)
    (k__law_binder : PySem.W.keepIn K (.ref f__law_binder) = true)
    (a__law_named : PySem.W.nsIn K mainGlobals "_law_named" = some (some (.ref f__law_named)))
    (l__law_named : K.lookup f__law_named = some ⟨oc25, od25, .func (PySem.W.fnOf "_law_named" "_law_named" (defArgs st__law_named) (defBody st__law_named) (defScope st__law_named) .none kV25 dc25 pm25 an25 cd25 ct25), sl25⟩)
    (c__law_named : PySem.W.codeIn K cd25 "_law_named" = true)
    (k__law_named : PySem.W.keepIn K (.ref f__law_named) = true)
    (a__law_put : PySem.W.nsIn K mainGlobals "_law_put" = some (some (.ref f__law_put)))
    (l__law_put : K.lookup f__law_put = some ⟨oc26, od26, .func (PySem.W.fnOf "_law_put" "_law_put" (defArgs st__law_put) (defBody st__law_put) (defScope st__law_put) .none kV26 dc26 pm26 an26 cd26 ct26), sl26⟩)
    (c__law_put : PySem.W.codeIn K cd26 "_law_put" = true)
    (k__law_put : PySem.W.keepIn K (.ref f__law_put) = true)
    (a_Term___eq__ : PySem.W.findIn K (.ref C) "__eq__" = some (some (.ref f_Term___eq__)))
    (i_Term___eq__ : PySem.W.isFn K (.ref f_Term___eq__) = true)
    (l_Term___eq__ : K.lookup f_Term___eq__ = some ⟨oc27, od27, .func (PySem.W.fnOf "__eq__" "Term.__eq__" (defArgs st_Term___eq__) (defBody st_Term___eq__) (defScope st_Term___eq__) .none kV27 dc27 pm27 an27 cd27 ct27), sl27⟩)
    (c_Term___eq__ : PySem.W.codeIn K cd27 "Term.__eq__" = true)
    (k_Term___eq__ : PySem.W.keepIn K (.ref f_Term___eq__) = true)
    (a_nth_word : PySem.W.nsIn K mainGlobals "nth_word" = some (some (.ref f_nth_word)))
    (l_nth_word : K.lookup f_nth_word = some ⟨oc28, od28, .func (PySem.W.fnOf "nth_word" "nth_word" (defArgs st_nth_word) (defBody st_nth_word) (defScope st_nth_word) .none kV28 dc28 pm28 an28 cd28 ct28), sl28⟩)
    (c_nth_word : PySem.W.codeIn K cd28 "nth_word" = true)
    (k_nth_word : PySem.W.keepIn K (.ref f_nth_word) = true)
    (a_spare_words : PySem.W.nsIn K mainGlobals "spare_words" = some (some (.ref f_spare_words)))
    (l_spare_words : K.lookup f_spare_words = some ⟨oc29, od29, .func (PySem.W.fnOf "spare_words" "spare_words" (defArgs st_spare_words) (defBody st_spare_words) (defScope st_spare_words) .none kV29 dc29 pm29 an29 cd29 ct29), sl29⟩)
    (c_spare_words : PySem.W.codeIn K cd29 "spare_words" = true)
    (k_spare_words : PySem.W.keepIn K (.ref f_spare_words) = true)
    (a_free_words : PySem.W.nsIn K mainGlobals "free_words" = some (some (.ref f_free_words)))
    (l_free_words : K.lookup f_free_words = some ⟨oc30, od30, .func (PySem.W.fnOf "free_words" "free_words" (defArgs st_free_words) (defBody st_free_words) (defScope st_free_words) .none kV30 dc30 pm30 an30 cd30 ct30), sl30⟩)
    (c_free_words : PySem.W.codeIn K cd30 "free_words" = true)
    (k_free_words : PySem.W.keepIn K (.ref f_free_words) = true)
    (a_told_words : PySem.W.nsIn K mainGlobals "told_words" = some (some (.ref f_told_words)))
    (l_told_words : K.lookup f_told_words = some ⟨oc31, od31, .func (PySem.W.fnOf "told_words" "told_words" (defArgs st_told_words) (defBody st_told_words) (defScope st_told_words) .none kV31 dc31 pm31 an31 cd31 ct31), sl31⟩)
    (c_told_words : PySem.W.codeIn K cd31 "told_words" = true)
    (k_told_words : PySem.W.keepIn K (.ref f_told_words) = true)
    (a_needs_brackets : PySem.W.nsIn K mainGlobals "needs_brackets" = some (some (.ref f_needs_brackets)))
    (l_needs_brackets : K.lookup f_needs_brackets = some ⟨oc32, od32, .func (PySem.W.fnOf "needs_brackets" "needs_brackets" (defArgs st_needs_brackets) (defBody st_needs_brackets) (defScope st_needs_brackets) .none kV32 dc32 pm32 an32 cd32 ct32), sl32⟩)
    (c_needs_brackets : PySem.W.codeIn K cd32 "needs_brackets" = true)
    (k_needs_brackets : PySem.W.keepIn K (.ref f_needs_brackets) = true)
    (a_text_pieces : PySem.W.nsIn K mainGlobals "text_pieces" = some (some (.ref f_text_pieces)))
    (l_text_pieces : K.lookup f_text_pieces = some ⟨oc33, od33, .func (PySem.W.fnOf "text_pieces" "text_pieces" (defArgs st_text_pieces) (defBody st_text_pieces) (defScope st_text_pieces) .none kV33 dc33 pm33 an33 cd33 ct33), sl33⟩)
    (c_text_pieces : PySem.W.codeIn K cd33 "text_pieces" = true)
    (k_text_pieces : PySem.W.keepIn K (.ref f_text_pieces) = true)
    (a_Term___str__ : PySem.W.findIn K (.ref C) "__str__" = some (some (.ref f_Term___str__)))
    (i_Term___str__ : PySem.W.isFn K (.ref f_Term___str__) = true)
    (l_Term___str__ : K.lookup f_Term___str__ = some ⟨oc34, od34, .func (PySem.W.fnOf "__str__" "Term.__str__" (defArgs st_Term___str__) (defBody st_Term___str__) (defScope st_Term___str__) .none kV34 dc34 pm34 an34 cd34 ct34), sl34⟩)
    (c_Term___str__ : PySem.W.codeIn K cd34 "Term.__str__" = true)
    (k_Term___str__ : PySem.W.keepIn K (.ref f_Term___str__) = true)
    (a_law : PySem.W.nsIn K mainGlobals "law" = some (some (.ref f_law)))
    (l_law : K.lookup f_law = some ⟨oc35, od35, .func (PySem.W.fnOf "law" "law" (defArgs st_law) (defBody st_law) (defScope st_law) .none kV35 dc35 pm35 an35 cd35 ct35), sl35⟩)
    (c_law : PySem.W.codeIn K cd35 "law" = true)
    (k_law : PySem.W.keepIn K (.ref f_law) = true) :
    ∃ fd : FuncData, (∀ (s : Shared) (v : Value), BindsTo s fd ⟨[v], []⟩ [("script", v)]) ∧ ∀ base : Heap, K.In base → base.Ns mainGlobals mg → FnOk l.prog w K mg base (L2.CX l.prog w) 90 fa fd ["script"] (spLaw K) := by
  have e := hfa.symm.trans (PySem.W.mg_of X G a_law)
  cases e
  have hn0 := hn
  have eC := clsMap_of aC
  subst eC
  have e_NoWord := clsMap_of x_NoWord
  subst e_NoWord
  have T : Txt K mg ⟨f__law_mixed, PySem.W.fnOf "_law_mixed" "_law_mixed" (defArgs st__law_mixed) (defBody st__law_mixed) (defScope st__law_mixed) .none kV0 dc0 pm0 an0 cd0 ct0, f__law_purse, PySem.W.fnOf "_law_purse" "_law_purse" (defArgs st__law_purse) (defBody st__law_purse) (defScope st__law_purse) .none kV1 dc1 pm1 an1 cd1 ct1, f__law_take, PySem.W.fnOf "_law_take" "_law_take" (defArgs st__law_take) (defBody st__law_take) (defScope st__law_take) .none kV2 dc2 pm2 an2 cd2 ct2, f__law_leaf, PySem.W.fnOf "_law_leaf" "_law_leaf" (defArgs st__law_leaf) (defBody st__law_leaf) (defScope st__law_leaf) .none kV3 dc3 pm3 an3 cd3 ct3, f__law_drawn, PySem.W.fnOf "_law_drawn" "_law_drawn" (defArgs st__law_drawn) (defBody st__law_drawn) (defScope st__law_drawn) .none kV4 dc4 pm4 an4 cd4 ct4, f_is_letter, PySem.W.fnOf "is_letter" "is_letter" (defArgs st_is_letter) (defBody st_is_letter) (defScope st_is_letter) .none kV5 dc5 pm5 an5 cd5 ct5, f_is_word, PySem.W.fnOf "is_word" "is_word" (defArgs st_is_word) (defBody st_is_word) (defScope st_is_word) .none kV6 dc6 pm6 an6 cd6 ct6, f_check_word, PySem.W.fnOf "check_word" "check_word" (defArgs st_check_word) (defBody st_check_word) (defScope st_check_word) .none kV7 dc7 pm7 an7 cd7 ct7, f_Term___init__, PySem.W.fnOf "__init__" "Term.__init__" (defArgs st_Term___init__) (defBody st_Term___init__) (defScope st_Term___init__) .none kV8 dc8 pm8 an8 cd8 ct8, f_is_level, PySem.W.fnOf "is_level" "is_level" (defArgs st_is_level) (defBody st_is_level) (defScope st_is_level) .none kV9 dc9 pm9 an9 cd9 ct9, f_raised, PySem.W.fnOf "raised" "raised" (defArgs st_raised) (defBody st_raised) (defScope st_raised) .none kV10 dc10 pm10 an10 cd10 ct10, f_fun, PySem.W.fnOf "fun" "fun" (defArgs st_fun) (defBody st_fun) (defScope st_fun) .none kV11 dc11 pm11 an11 cd11 ct11, f_name, PySem.W.fnOf "name" "name" (defArgs st_name) (defBody st_name) (defScope st_name) .none kV12 dc12 pm12 an12 cd12 ct12, f_put, PySem.W.fnOf "put" "put" (defArgs st_put) (defBody st_put) (defScope st_put) .none kV13 dc13 pm13 an13 cd13 ct13, f__law_made, PySem.W.fnOf "_law_made" "_law_made" (defArgs st__law_made) (defBody st__law_made) (defScope st__law_made) .none kV14 dc14 pm14 an14 cd14 ct14, f__law_written, PySem.W.fnOf "_law_written" "_law_written" (defArgs st__law_written) (defBody st__law_written) (defScope st__law_written) .none kV15 dc15 pm15 an15 cd15 ct15, f__law_words, PySem.W.fnOf "_law_words" "_law_words" (defArgs st__law_words) (defBody st__law_words) (defScope st__law_words) .none kV16 dc16 pm16 an16 cd16 ct16, f__law_free, PySem.W.fnOf "_law_free" "_law_free" (defArgs st__law_free) (defBody st__law_free) (defScope st__law_free) .none kV17 dc17 pm17 an17 cd17 ct17, f__law_text, PySem.W.fnOf "_law_text" "_law_text" (defArgs st__law_text) (defBody st__law_text) (defScope st__law_text) .none kV18 dc18 pm18 an18 cd18 ct18, f_depths, PySem.W.fnOf "depths" "depths" (defArgs st_depths) (defBody st_depths) (defScope st_depths) .none kV19 dc19 pm19 an19 cd19 ct19, f_all_put_in, PySem.W.fnOf "all_put_in" "all_put_in" (defArgs st_all_put_in) (defBody st_all_put_in) (defScope st_all_put_in) .none kV20 dc20 pm20 an20 cd20 ct20, f_put_in, PySem.W.fnOf "put_in" "put_in" (defArgs st_put_in) (defBody st_put_in) (defScope st_put_in) .none kV21 dc21 pm21 an21 cd21 ct21, f__law_at, PySem.W.fnOf "_law_at" "_law_at" (defArgs st__law_at) (defBody st__law_at) (defScope st__law_at) .none kV22 dc22 pm22 an22 cd22 ct22, f__law_used, PySem.W.fnOf "_law_used" "_law_used" (defArgs st__law_used) (defBody st__law_used) (defScope st__law_used) .none kV23 dc23 pm23 an23 cd23 ct23, f__law_binder, PySem.W.fnOf "_law_binder" "_law_binder" (defArgs st__law_binder) (defBody st__law_binder) (defScope st__law_binder) .none kV24 dc24 pm24 an24 cd24 ct24, f__law_named, PySem.W.fnOf "_law_named" "_law_named" (defArgs st__law_named) (defBody st__law_named) (defScope st__law_named) .none kV25 dc25 pm25 an25 cd25 ct25, f__law_put, PySem.W.fnOf "_law_put" "_law_put" (defArgs st__law_put) (defBody st__law_put) (defScope st__law_put) .none kV26 dc26 pm26 an26 cd26 ct26, f_Term___eq__, PySem.W.fnOf "__eq__" "Term.__eq__" (defArgs st_Term___eq__) (defBody st_Term___eq__) (defScope st_Term___eq__) .none kV27 dc27 pm27 an27 cd27 ct27, f_nth_word, PySem.W.fnOf "nth_word" "nth_word" (defArgs st_nth_word) (defBody st_nth_word) (defScope st_nth_word) .none kV28 dc28 pm28 an28 cd28 ct28, f_spare_words, PySem.W.fnOf "spare_words" "spare_words" (defArgs st_spare_words) (defBody st_spare_words) (defScope st_spare_words) .none kV29 dc29 pm29 an29 cd29 ct29, f_free_words, PySem.W.fnOf "free_words" "free_words" (defArgs st_free_words) (defBody st_free_words) (defScope st_free_words) .none kV30 dc30 pm30 an30 cd30 ct30, f_told_words, PySem.W.fnOf "told_words" "told_words" (defArgs st_told_words) (defBody st_told_words) (defScope st_told_words) .none kV31 dc31 pm31 an31 cd31 ct31, f_needs_brackets, PySem.W.fnOf "needs_brackets" "needs_brackets" (defArgs st_needs_brackets) (defBody st_needs_brackets) (defScope st_needs_brackets) .none kV32 dc32 pm32 an32 cd32 ct32, f_text_pieces, PySem.W.fnOf "text_pieces" "text_pieces" (defArgs st_text_pieces) (defBody st_text_pieces) (defScope st_text_pieces) .none kV33 dc33 pm33 an33 cd33 ct33, f_Term___str__, PySem.W.fnOf "__str__" "Term.__str__" (defArgs st_Term___str__) (defBody st_Term___str__) (defScope st_Term___str__) .none kV34 dc34 pm34 an34 cd34 ct34, fa, PySem.W.fnOf "law" "law" (defArgs st_law) (defBody st_law) (defScope st_law) .none kV35 dc35 pm35 an35 cd35 ct35⟩ := {
    cl := ⟨pg, hd, po, sa⟩
    n_parts := nP
    m_Term := PySem.W.mg_of X G aC
    mkT := ⟨mkI, a_Term___init__, i_Term___init__, kpC⟩
    own := ⟨fL, ⟨⟨pg, hd, po, sa⟩, mro, a_Term___eq__, ne, a_Term___str__, aL, i_Term___eq__, i_Term___str__, iL, ha, hn, htk, k1, (by simp only [List.forall_mem_cons, List.not_mem_nil, false_implies, implies_true, and_true]; exact ⟨k0NoneType, k0bool, k0int, k0str, k0list, k0tuple⟩), (by simp only [List.forall_mem_cons, List.not_mem_nil, false_implies, implies_true, and_true]; exact ⟨kbbool, kbint, kbstr, kblist, kbtuple⟩), (by simp only [List.forall_mem_cons, List.not_mem_nil, false_implies, implies_true, and_true]; exact ⟨nfNoneType, nfbool, nfint, nfstr, nflist, nftuple⟩)⟩⟩
    m_NoWord := PySem.W.mg_of X G x_NoWord
    xx_NoWord := xx_NoWord
    xk_NoWord := xk_NoWord
    xs_NoWord := xs_NoWord
    xt_NoWord := xt_NoWord
    b_all := PySem.W.mg_none_of X G z_all
    b_divmod := PySem.W.mg_none_of X G z_divmod
    b_int := PySem.W.mg_none_of X G z_int
    b_isinstance := PySem.W.mg_none_of X G z_isinstance
    b_len := PySem.W.mg_none_of X G z_len
    b_list := PySem.W.mg_none_of X G z_list
    b_max := PySem.W.mg_none_of X G z_max
    b_reversed := PySem.W.mg_none_of X G z_reversed
    b_set := PySem.W.mg_none_of X G z_set
    b_sorted := PySem.W.mg_none_of X G z_sorted
    b_str := PySem.W.mg_none_of X G z_str
    b_tuple := PySem.W.mg_none_of X G z_tuple
    b_zip := PySem.W.mg_none_of X G z_zip
    g_ARGUMENT := ⟨t_ARGUMENT, PySem.W.mg_of X G g_ARGUMENT⟩
    g_FUN := ⟨t_FUN, PySem.W.mg_of X G g_FUN⟩
    g_FUNCTION := ⟨t_FUNCTION, PySem.W.mg_of X G g_FUNCTION⟩
    g_LETTERS := ⟨t_LETTERS, PySem.W.mg_of X G g_LETTERS⟩
    g_LONGEST := ⟨t_LONGEST, PySem.W.mg_of X G g_LONGEST⟩
    g_PUT := ⟨t_PUT, PySem.W.mg_of X G g_PUT⟩
    g_WHOLE := ⟨t_WHOLE, PySem.W.mg_of X G g_WHOLE⟩
    F__law_mixed := fun_mk (st := st__law_mixed) l__law_mixed c__law_mixed k__law_mixed
    b__law_mixed := (fun_mk (st := st__law_mixed) l__law_mixed c__law_mixed k__law_mixed).binds (ps := ["cell", "k"]) fun _ _ _ _ _ _ us hl => match us, hl with | [_, _], _ => rfl
    m__law_mixed := PySem.W.mg_of X G a__law_mixed
    k__law_mixed := k__law_mixed
    F__law_purse := fun_mk (st := st__law_purse) l__law_purse c__law_purse k__law_purse
    b__law_purse := (fun_mk (st := st__law_purse) l__law_purse c__law_purse k__law_purse).binds (ps := ["cell", "k"]) fun _ _ _ _ _ _ us hl => match us, hl with | [_, _], _ => rfl
    m__law_purse := PySem.W.mg_of X G a__law_purse
    k__law_purse := k__law_purse
    F__law_take := fun_mk (st := st__law_take) l__law_take c__law_take k__law_take
    b__law_take := (fun_mk (st := st__law_take) l__law_take c__law_take k__law_take).binds (ps := ["purse", "many"]) fun _ _ _ _ _ _ us hl => match us, hl with | [_, _], _ => rfl
    m__law_take := PySem.W.mg_of X G a__law_take
    k__law_take := k__law_take
    F__law_leaf := fun_mk (st := st__law_leaf) l__law_leaf c__law_leaf k__law_leaf
    b__law_leaf := (fun_mk (st := st__law_leaf) l__law_leaf c__law_leaf k__law_leaf).binds (ps := ["purse", "depth", "free"]) fun _ _ _ _ _ _ us hl => match us, hl with | [_, _, _], _ => rfl
    m__law_leaf := PySem.W.mg_of X G a__law_leaf
    k__law_leaf := k__law_leaf
    F__law_drawn := fun_mk (st := st__law_drawn) l__law_drawn c__law_drawn k__law_drawn
    b__law_drawn := (fun_mk (st := st__law_drawn) l__law_drawn c__law_drawn k__law_drawn).binds (ps := ["purse", "deep", "depth", "free"]) fun _ _ _ _ _ _ us hl => match us, hl with | [_, _, _, _], _ => rfl
    m__law_drawn := PySem.W.mg_of X G a__law_drawn
    k__law_drawn := k__law_drawn
    F_is_letter := fun_mk (st := st_is_letter) l_is_letter c_is_letter k_is_letter
    b_is_letter := (fun_mk (st := st_is_letter) l_is_letter c_is_letter k_is_letter).binds (ps := ["sign"]) fun _ _ _ _ _ _ us hl => match us, hl with | [_], _ => rfl
    m_is_letter := PySem.W.mg_of X G a_is_letter
    k_is_letter := k_is_letter
    F_is_word := fun_mk (st := st_is_word) l_is_word c_is_word k_is_word
    b_is_word := (fun_mk (st := st_is_word) l_is_word c_is_word k_is_word).binds (ps := ["thing"]) fun _ _ _ _ _ _ us hl => match us, hl with | [_], _ => rfl
    m_is_word := PySem.W.mg_of X G a_is_word
    k_is_word := k_is_word
    F_check_word := fun_mk (st := st_check_word) l_check_word c_check_word k_check_word
    b_check_word := (fun_mk (st := st_check_word) l_check_word c_check_word k_check_word).binds (ps := ["word"]) fun _ _ _ _ _ _ us hl => match us, hl with | [_], _ => rfl
    m_check_word := PySem.W.mg_of X G a_check_word
    k_check_word := k_check_word
    F_Term___init__ := fun_mk (st := st_Term___init__) l_Term___init__ c_Term___init__ k_Term___init__
    b_Term___init__ := (fun_mk (st := st_Term___init__) l_Term___init__ c_Term___init__ k_Term___init__).binds (ps := ["self", "parts"]) fun _ _ _ _ _ _ us hl => match us, hl with | [_, _], _ => rfl
    F_is_level := fun_mk (st := st_is_level) l_is_level c_is_level k_is_level
    b_is_level := (fun_mk (st := st_is_level) l_is_level c_is_level k_is_level).binds (ps := ["part"]) fun _ _ _ _ _ _ us hl => match us, hl with | [_], _ => rfl
    m_is_level := PySem.W.mg_of X G a_is_level
    k_is_level := k_is_level
    F_raised := fun_mk (st := st_raised) l_raised c_raised k_raised
    b_raised := (fun_mk (st := st_raised) l_raised c_raised k_raised).binds (ps := ["parts", "by"]) fun _ _ _ _ _ _ us hl => match us, hl with | [_, _], _ => rfl
    m_raised := PySem.W.mg_of X G a_raised
    k_raised := k_raised
    F_fun := fun_mk (st := st_fun) l_fun c_fun k_fun
    b_fun := (fun_mk (st := st_fun) l_fun c_fun k_fun).binds (ps := ["word", "body"]) fun _ _ _ _ _ _ us hl => match us, hl with | [_, _], _ => rfl
    m_fun := PySem.W.mg_of X G a_fun
    k_fun := k_fun
    F_name := fun_mk (st := st_name) l_name c_name k_name
    b_name := (fun_mk (st := st_name) l_name c_name k_name).binds (ps := ["word"]) fun _ _ _ _ _ _ us hl => match us, hl with | [_], _ => rfl
    m_name := PySem.W.mg_of X G a_name
    k_name := k_name
    F_put := fun_mk (st := st_put) l_put c_put k_put
    b_put := (fun_mk (st := st_put) l_put c_put k_put).binds (ps := ["function", "argument"]) fun _ _ _ _ _ _ us hl => match us, hl with | [_, _], _ => rfl
    m_put := PySem.W.mg_of X G a_put
    k_put := k_put
    F__law_made := fun_mk (st := st__law_made) l__law_made c__law_made k__law_made
    b__law_made := (fun_mk (st := st__law_made) l__law_made c__law_made k__law_made).binds (ps := ["named"]) fun _ _ _ _ _ _ us hl => match us, hl with | [_], _ => rfl
    m__law_made := PySem.W.mg_of X G a__law_made
    k__law_made := k__law_made
    F__law_written := fun_mk (st := st__law_written) l__law_written c__law_written k__law_written
    b__law_written := (fun_mk (st := st__law_written) l__law_written c__law_written k__law_written).binds (ps := ["tree", "words", "depth"]) fun _ _ _ _ _ _ us hl => match us, hl with | [_, _, _], _ => rfl
    m__law_written := PySem.W.mg_of X G a__law_written
    k__law_written := k__law_written
    F__law_words := fun_mk (st := st__law_words) l__law_words c__law_words k__law_words
    b__law_words := (fun_mk (st := st__law_words) l__law_words c__law_words k__law_words).binds (ps := ["free", "many"]) fun _ _ _ _ _ _ us hl => match us, hl with | [_, _], _ => rfl
    m__law_words := PySem.W.mg_of X G a__law_words
    k__law_words := k__law_words
    F__law_free := fun_mk (st := st__law_free) l__law_free c__law_free k__law_free
    b__law_free := (fun_mk (st := st__law_free) l__law_free c__law_free k__law_free).binds (ps := ["tree"]) fun _ _ _ _ _ _ us hl => match us, hl with | [_], _ => rfl
    m__law_free := PySem.W.mg_of X G a__law_free
    k__law_free := k__law_free
    F__law_text := fun_mk (st := st__law_text) l__law_text c__law_text k__law_text
    b__law_text := (fun_mk (st := st__law_text) l__law_text c__law_text k__law_text).binds (ps := ["tree"]) fun _ _ _ _ _ _ us hl => match us, hl with | [_], _ => rfl
    m__law_text := PySem.W.mg_of X G a__law_text
    k__law_text := k__law_text
    F_depths := fun_mk (st := st_depths) l_depths c_depths k_depths
    b_depths := (fun_mk (st := st_depths) l_depths c_depths k_depths).binds (ps := ["parts"]) fun _ _ _ _ _ _ us hl => match us, hl with | [_], _ => rfl
    m_depths := PySem.W.mg_of X G a_depths
    k_depths := k_depths
    F_all_put_in := fun_mk (st := st_all_put_in) l_all_put_in c_all_put_in k_all_put_in
    b_all_put_in := (fun_mk (st := st_all_put_in) l_all_put_in c_all_put_in k_all_put_in).binds (ps := ["term", "others"]) fun _ _ _ _ _ _ us hl => match us, hl with | [_, _], _ => rfl
    m_all_put_in := PySem.W.mg_of X G a_all_put_in
    k_all_put_in := k_all_put_in
    F_put_in := fun_mk (st := st_put_in) l_put_in c_put_in k_put_in
    b_put_in := (fun_mk (st := st_put_in) l_put_in c_put_in k_put_in).binds (ps := ["term", "word", "other"]) fun _ _ _ _ _ _ us hl => match us, hl with | [_, _, _], _ => rfl
    m_put_in := PySem.W.mg_of X G a_put_in
    k_put_in := k_put_in
    F__law_at := fun_mk (st := st__law_at) l__law_at c__law_at k__law_at
    b__law_at := (fun_mk (st := st__law_at) l__law_at c__law_at k__law_at).binds (ps := ["script", "k"]) fun _ _ _ _ _ _ us hl => match us, hl with | [_, _], _ => rfl
    m__law_at := PySem.W.mg_of X G a__law_at
    k__law_at := k__law_at
    F__law_used := fun_mk (st := st__law_used) l__law_used c__law_used k__law_used
    b__law_used := (fun_mk (st := st__law_used) l__law_used c__law_used k__law_used).binds (ps := ["tree", "depth"]) fun _ _ _ _ _ _ us hl => match us, hl with | [_, _], _ => rfl
    m__law_used := PySem.W.mg_of X G a__law_used
    k__law_used := k__law_used
    F__law_binder := fun_mk (st := st__law_binder) l__law_binder c__law_binder k__law_binder
    b__law_binder := (fun_mk (st := st__law_binder) l__law_binder c__law_binder k__law_binder).binds (ps := ["purse", "inside", "words"]) fun _ _ _ _ _ _ us hl => match us, hl with | [_, _, _], _ => rfl
    m__law_binder := PySem.W.mg_of X G a__law_binder
    k__law_binder := k__law_binder
    F__law_named := fun_mk (st := st__law_named) l__law_named c__law_named k__law_named
    b__law_named := (fun_mk (st := st__law_named) l__law_named c__law_named k__law_named).binds (ps := ["purse", "tree", "words"]) fun _ _ _ _ _ _ us hl => match us, hl with | [_, _, _], _ => rfl
    m__law_named := PySem.W.mg_of X G a__law_named
    k__law_named := k__law_named
    F__law_put := fun_mk (st := st__law_put) l__law_put c__law_put k__law_put
    b__law_put := (fun_mk (st := st__law_put) l__law_put c__law_put k__law_put).binds (ps := ["tree", "said", "that"]) fun _ _ _ _ _ _ us hl => match us, hl with | [_, _, _], _ => rfl
    m__law_put := PySem.W.mg_of X G a__law_put
    k__law_put := k__law_put
    F_Term___eq__ := fun_mk (st := st_Term___eq__) l_Term___eq__ c_Term___eq__ k_Term___eq__
    b_Term___eq__ := (fun_mk (st := st_Term___eq__) l_Term___eq__ c_Term___eq__ k_Term___eq__).binds (ps := ["self", "other"]) fun _ _ _ _ _ _ us hl => match us, hl with | [_, _], _ => rfl
    F_nth_word := fun_mk (st := st_nth_word) l_nth_word c_nth_word k_nth_word
    b_nth_word := (fun_mk (st := st_nth_word) l_nth_word c_nth_word k_nth_word).binds (ps := ["number"]) fun _ _ _ _ _ _ us hl => match us, hl with | [_], _ => rfl
    m_nth_word := PySem.W.mg_of X G a_nth_word
    k_nth_word := k_nth_word
    F_spare_words := fun_mk (st := st_spare_words) l_spare_words c_spare_words k_spare_words
    b_spare_words := (fun_mk (st := st_spare_words) l_spare_words c_spare_words k_spare_words).binds (ps := ["taken", "many"]) fun _ _ _ _ _ _ us hl => match us, hl with | [_, _], _ => rfl
    m_spare_words := PySem.W.mg_of X G a_spare_words
    k_spare_words := k_spare_words
    F_free_words := fun_mk (st := st_free_words) l_free_words c_free_words k_free_words
    b_free_words := (fun_mk (st := st_free_words) l_free_words c_free_words k_free_words).binds (ps := ["parts"]) fun _ _ _ _ _ _ us hl => match us, hl with | [_], _ => rfl
    m_free_words := PySem.W.mg_of X G a_free_words
    k_free_words := k_free_words
    F_told_words := fun_mk (st := st_told_words) l_told_words c_told_words k_told_words
    b_told_words := (fun_mk (st := st_told_words) l_told_words c_told_words k_told_words).binds (ps := ["parts"]) fun _ _ _ _ _ _ us hl => match us, hl with | [_], _ => rfl
    m_told_words := PySem.W.mg_of X G a_told_words
    k_told_words := k_told_words
    F_needs_brackets := fun_mk (st := st_needs_brackets) l_needs_brackets c_needs_brackets k_needs_brackets
    b_needs_brackets := (fun_mk (st := st_needs_brackets) l_needs_brackets c_needs_brackets k_needs_brackets).binds (ps := ["part", "place"]) fun _ _ _ _ _ _ us hl => match us, hl with | [_, _], _ => rfl
    m_needs_brackets := PySem.W.mg_of X G a_needs_brackets
    k_needs_brackets := k_needs_brackets
    F_text_pieces := fun_mk (st := st_text_pieces) l_text_pieces c_text_pieces k_text_pieces
    b_text_pieces := (fun_mk (st := st_text_pieces) l_text_pieces c_text_pieces k_text_pieces).binds (ps := ["parts"]) fun _ _ _ _ _ _ us hl => match us, hl with | [_], _ => rfl
    m_text_pieces := PySem.W.mg_of X G a_text_pieces
    k_text_pieces := k_text_pieces
    F_Term___str__ := fun_mk (st := st_Term___str__) l_Term___str__ c_Term___str__ k_Term___str__
    b_Term___str__ := (fun_mk (st := st_Term___str__) l_Term___str__ c_Term___str__ k_Term___str__).binds (ps := ["self"]) fun _ _ _ _ _ _ us hl => match us, hl with | [_], _ => rfl
    F_law := fun_mk (st := st_law) l_law c_law k_law
    b_law := (fun_mk (st := st_law) l_law c_law k_law).binds (ps := ["script"]) fun _ _ _ _ _ _ us hl => match us, hl with | [_], _ => rfl
    m_law := PySem.W.mg_of X G a_law
    k_law := k_law }
  exact ⟨_, fun s v => .of_eq rfl, fun base _ _ => (ok_law (P := l.prog) (w := w) (base := base) T).imp (sp_law hM)⟩
theorem walk {l : PySem.W.OpenLaw} {q : Program} {loose : List Str} {XP : (Str → Option Value) → Heap → Prop} {YP : World → Heap → Prop} {d : DefRec} {K : Params → PySem.W.Frag} (hn : l.most = some 63) (hdf : d.params.defaults = [])
    (hY : ∀ (w : World) (h : Heap), YP w h → (K w.params).In h)
    (F : ∀ (w : World) (mg : Str → Option Value) (fa : Addr) (h : Heap), (K w.params).In h → h.Ns mainGlobals mg → mg d.name = some (.ref fa) →
      ∃ fd : FuncData, (∀ (s : Shared) (u : Value), BindsTo s fd ⟨[u], []⟩ [("script", u)]) ∧ ∀ base : Heap, (K w.params).In base → base.Ns mainGlobals mg → FnOk l.prog w (K w.params) mg base (L2.CX l.prog w) 90 fa fd ["script"] (spLaw (K w.params))) :
    PySem.W.WalkO q loose XP YP l.row.toRowW d [] (fun f vs => PySem.call f vs) :=
  L2.walk_ofB (n := 63) (k := 90) (x := "script") (CX := fun w => L2.CX l.prog w) (sp := fun w => spLaw (K w.params)) hn (by decide) hdf ⟨rfl, by decide, by decide⟩ hY F (fun w H p ns hl hb _ hS => ⟨p, ns, rfl, hS, hl, hb, fun v H' e => e⟩) fun w H s e s' c => by
    obtain ⟨_, _, _, _, _, _, _, _, _, _, _, _, z⟩ := c
    exact z.elim
end Pg
open PySem PySem.W PyProof.Rows
set_option maxRecDepth 100000 in
set_option maxHeartbeats 0 in
theorem PySem.Challenge.cw_fanweave_k04_names_exchanged_for_terms_holds : PySem.Challenge.rw_fanweave_k04_names_exchanged_for_terms.Holds := by
  w_on; o_law; k_head; (case hw => w_witness2)
  k_fill
  refine Pg.walk (l := PySem.Challenge.rw_fanweave_k04_names_exchanged_for_terms) rfl rfl (fun w h Y => PySem.W.kIn_of Y) ?F
  case F =>
    intro w mg fa h KX G hmg
    refine' Pg.all_mk (show Pg.Math from Pg.math) KX G hmg ?aC ?pg ?hd ?po ?sa ?nP ?mkI ?kpC ?aL ?iL ?mro ?ne ?ha ?hn ?htk ?k1 ?k0NoneType ?k0bool ?k0int ?k0str ?k0list ?k0tuple ?kbbool ?kbint ?kbstr ?kblist ?kbtuple ?nfNoneType ?nfbool ?nfint ?nfstr ?nflist ?nftuple ?z_all ?z_divmod ?z_int ?z_isinstance ?z_len ?z_list ?z_max ?z_reversed ?z_set ?z_sorted ?z_str ?z_tuple ?z_zip ?x_NoWord ?xx_NoWord ?xk_NoWord ?xs_NoWord ?xt_NoWord ?g_ARGUMENT ?g_FUN ?g_FUNCTION ?g_LETTERS ?g_LONGEST ?g_PUT ?g_WHOLE ?a__law_mixed ?l__law_mixed ?c__law_mixed ?k__law_mixed ?a__law_purse ?l__law_purse ?c__law_purse ?k__law_purse ?a__law_take ?l__law_take ?c__law_take ?k__law_take ?a__law_leaf ?l__law_leaf ?c__law_leaf ?k__law_leaf ?a__law_drawn ?l__law_drawn ?c__law_drawn ?k__law_drawn ?a_is_letter ?l_is_letter ?c_is_letter ?k_is_letter ?a_is_word ?l_is_word ?c_is_word ?k_is_word ?a_check_word ?l_check_word ?c_check_word ?k_check_word ?a_Term___init__ ?i_Term___init__ ?l_Term___init__ ?c_Term___init__ ?k_Term___init__ ?a_is_level ?l_is_level ?c_is_level ?k_is_level ?a_raised ?l_raised ?c_raised ?k_raised ?a_fun ?l_fun ?c_fun ?k_fun ?a_name ?l_name ?c_name ?k_name ?a_put ?l_put ?c_put ?k_put ?a__law_made ?l__law_made ?c__law_made ?k__law_made ?a__law_written ?l__law_written ?c__law_written ?k__law_written ?a__law_words ?l__law_words ?c__law_words ?k__law_words ?a__law_free ?l__law_free ?c__law_free ?k__law_free ?a__law_text ?l__law_text ?c__law_text ?k__law_text ?a_depths ?l_depths ?c_depths ?k_depths ?a_all_put_in ?l_all_put_in ?c_all_put_in ?k_all_put_in ?a_put_in ?l_put_in ?c_put_in ?k_put_in ?a__law_at ?l__law_at ?c__law_at ?k__law_at ?a__law_used ?l__law_used ?c__law_used ?k__law_used ?a__law_binder ?l__law_binder ?c__law_binder ?k__law_binder ?a__law_named ?l__law_named ?c__law_named ?k__law_named ?a__law_put ?l__law_put ?c__law_put ?k__law_put ?a_Term___eq__ ?i_Term___eq__ ?l_Term___eq__ ?c_Term___eq__ ?k_Term___eq__ ?a_nth_word ?l_nth_word ?c_nth_word ?k_nth_word ?a_spare_words ?l_spare_words ?c_spare_words ?k_spare_words ?a_free_words ?l_free_words ?c_free_words ?k_free_words ?a_told_words ?l_told_words ?c_told_words ?k_told_words ?a_needs_brackets ?l_needs_brackets ?c_needs_brackets ?k_needs_brackets ?a_text_pieces ?l_text_pieces ?c_text_pieces ?k_text_pieces ?a_Term___str__ ?i_Term___str__ ?l_Term___str__ ?c_Term___str__ ?k_Term___str__ ?a_law ?l_law ?c_law ?k_law
    (case aC => k_is)
    (case pg => k_is)
    (case hd => k_is)
    (case po => k_is)
    (case sa => k_is)
    (case nP => k_is)
    (case mkI => k_is)
    (case kpC => k_is)
    (case aL => k_is)
    (case iL => k_is)
    (case mro => k_is)
    (case ne => k_is)
    (case ha => k_is)
    (case hn => k_is)
    (case htk => k_is)
    (case k1 => kit_is)
    (case k0NoneType => kit_is)
    (case k0bool => kit_is)
    (case k0int => kit_is)
    (case k0str => kit_is)
    (case k0list => kit_is)
    (case k0tuple => kit_is)
    (case kbbool => kit_is)
    (case kbint => kit_is)
    (case kbstr => kit_is)
    (case kblist => kit_is)
    (case kbtuple => kit_is)
    (case nfNoneType => k_is)
    (case nfbool => k_is)
    (case nfint => k_is)
    (case nfstr => k_is)
    (case nflist => k_is)
    (case nftuple => k_is)
    (case z_all => k_is)
    (case z_divmod => k_is)
    (case z_int => k_is)
    (case z_isinstance => k_is)
    (case z_len => k_is)
    (case z_list => k_is)
    (case z_max => k_is)
    (case z_reversed => k_is)
    (case z_set => k_is)
    (case z_sorted => k_is)
    (case z_str => k_is)
    (case z_tuple => k_is)
    (case z_zip => k_is)
    (case x_NoWord => k_is)
    (case xx_NoWord => k_exc)
    (case xk_NoWord => k_is)
    (case xs_NoWord => k_is)
    (case xt_NoWord => k_is)
    (case g_ARGUMENT => k_is)
    (case g_FUN => k_is)
    (case g_FUNCTION => k_is)
    (case g_LETTERS => k_is)
    (case g_LONGEST => k_is)
    (case g_PUT => k_is)
    (case g_WHOLE => k_is)
    (case a__law_mixed => k_is)
    (case l__law_mixed => k_is)
    (case c__law_mixed => k_is)
    (case k__law_mixed => k_is)
    (case a__law_purse => k_is)
    (case l__law_purse => k_is)
    (case c__law_purse => k_is)
    (case k__law_purse => k_is)
    (case a__law_take => k_is)
    (case l__law_take => k_is)
    (case c__law_take => k_is)
    (case k__law_take => k_is)
    (case a__law_leaf => k_is)
    (case l__law_leaf => k_is)
    (case c__law_leaf => k_is)
    (case k__law_leaf => k_is)
    (case a__law_drawn => k_is)
    (case l__law_drawn => k_is)
    (case c__law_drawn => k_is)
    (case k__law_drawn => k_is)
    (case a_is_letter => k_is)
    (case l_is_letter => k_is)
    (case c_is_letter => k_is)
    (case k_is_letter => k_is)
    (case a_is_word => k_is)
    (case l_is_word => k_is)
    (case c_is_word => k_is)
    (case k_is_word => k_is)
    (case a_check_word => k_is)
    (case l_check_word => k_is)
    (case c_check_word => k_is)
    (case k_check_word => k_is)
    (case a_Term___init__ => k_is)
    (case i_Term___init__ => k_is)
    (case l_Term___init__ => k_is)
    (case c_Term___init__ => k_is)
    (case k_Term___init__ => k_is)
    (case a_is_level => k_is)
    (case l_is_level => k_is)
    (case c_is_level => k_is)
    (case k_is_level => k_is)
    (case a_raised => k_is)
    (case l_raised => k_is)
    (case c_raised => k_is)
    (case k_raised => k_is)
    (case a_fun => k_is)
    (case l_fun => k_is)
    (case c_fun => k_is)
    (case k_fun => k_is)
    (case a_name => k_is)
    (case l_name => k_is)
    (case c_name => k_is)
    (case k_name => k_is)
    (case a_put => k_is)
    (case l_put => k_is)
    (case c_put => k_is)
    (case k_put => k_is)
    (case a__law_made => k_is)
    (case l__law_made => k_is)
    (case c__law_made => k_is)
    (case k__law_made => k_is)
    (case a__law_written => k_is)
    (case l__law_written => k_is)
    (case c__law_written => k_is)
    (case k__law_written => k_is)
    (case a__law_words => k_is)
    (case l__law_words => k_is)
    (case c__law_words => k_is)
    (case k__law_words => k_is)
    (case a__law_free => k_is)
    (case l__law_free => k_is)
    (case c__law_free => k_is)
    (case k__law_free => k_is)
    (case a__law_text => k_is)
    (case l__law_text => k_is)
    (case c__law_text => k_is)
    (case k__law_text => k_is)
    (case a_depths => k_is)
    (case l_depths => k_is)
    (case c_depths => k_is)
    (case k_depths => k_is)
    (case a_all_put_in => k_is)
    (case l_all_put_in => k_is)
    (case c_all_put_in => k_is)
    (case k_all_put_in => k_is)
    (case a_put_in => k_is)
    (case l_put_in => k_is)
    (case c_put_in => k_is)
    (case k_put_in => k_is)
    (case a__law_at => k_is)
    (case l__law_at => k_is)
    (case c__law_at => k_is)
    (case k__law_at => k_is)
    (case a__law_used => k_is)
    (case l__law_used => k_is)
    (case c__law_used => k_is)
    (case k__law_used => k_is)
    (case a__law_binder => k_is)
    (case l__law_binder => k_is)
    (case c__law_binder => k_is)
    (case k__law_binder => k_is)
    (case a__law_named => k_is)
    (case l__law_named => k_is)
    (case c__law_named => k_is)
    (case k__law_named => k_is)
    (case a__law_put => k_is)
    (case l__law_put => k_is)
    (case c__law_put => k_is)
    (case k__law_put => k_is)
    (case a_Term___eq__ => k_is)
    (case i_Term___eq__ => k_is)
    (case l_Term___eq__ => k_is)
    (case c_Term___eq__ => k_is)
    (case k_Term___eq__ => k_is)
    (case a_nth_word => k_is)
    (case l_nth_word => k_is)
    (case c_nth_word => k_is)
    (case k_nth_word => k_is)
    (case a_spare_words => k_is)
    (case l_spare_words => k_is)
    (case c_spare_words => k_is)
    (case k_spare_words => k_is)
    (case a_free_words => k_is)
    (case l_free_words => k_is)
    (case c_free_words => k_is)
    (case k_free_words => k_is)
    (case a_told_words => k_is)
    (case l_told_words => k_is)
    (case c_told_words => k_is)
    (case k_told_words => k_is)
    (case a_needs_brackets => k_is)
    (case l_needs_brackets => k_is)
    (case c_needs_brackets => k_is)
    (case k_needs_brackets => k_is)
    (case a_text_pieces => k_is)
    (case l_text_pieces => k_is)
    (case c_text_pieces => k_is)
    (case k_text_pieces => k_is)
    (case a_Term___str__ => k_is)
    (case i_Term___str__ => k_is)
    (case l_Term___str__ => k_is)
    (case c_Term___str__ => k_is)
    (case k_Term___str__ => k_is)
    (case a_law => k_is)
    (case l_law => k_is)
    (case c_law => k_is)
    (case k_law => k_is)

