import PyProof.Rows.All
import Wide.All
import OpenK.AllK
import Wide.FinOn
import PyProof.ReprRoads
import KE.KExcIs
import HandS.ForMost
import HandS.Exc
import HandS.ExcOwn
import HandS.ExcInit
import HandS.ExcValue
import HandS.Wide
import HandS.ExcIs
import HandS.ExcField
import HandS.IsInst
import HandS.More
import HandS.SetTxt0
import HandS.SetKeys
import HandS.SetBool
import PyProof.Rows.SetFrom
import HandS.TupAny
import HandS.Deep
import HandS.Text
import HandS.Iter
import HandS.Flow
import HandS.Words
import HandS.Lambda
import HandS.EndTab
import HandS.Style
import KE.KDictPairs
import KE.SortKeyHeap
import HandS.Strs
import HandS.DictComp
import KE.KRevSl
import HandS.TupMul
import KE.SortData
import HandS.DictTup
import KE.KDictWalk
import KE.KDictCopyH
import HandS.Conv
import HandS.Zip
import KE.GoesZip
import KE.GoesMore
import KE.GoesComp
import HandS.FStr
import KE.DataMinKey
import PyProof.Rows.TupDisplay
import PyProof.Draws
import PyProof.EnumMake
import KE.SortCalls
import HandS.OwnEq
import PyProof.InstEq
import KE.KDictSum
import HandS.RevTup
import HandS.TryOnly
import HandS.Rev
import KE.KDictItemsList
import PySem.Challenge.RW_featureunion_k04_great_formulas
set_option Elab.async false
set_option linter.all false
set_option maxRecDepth 100000
set_option maxHeartbeats 4000000
/-! ## Calls where no repr is under way -/
namespace L2.Fu
open PySem PySem.Spec PyProof.Rows

/-- what a def promises to callers around whom no repr runs -/
structure FnG (P : Program) (w : World) (K : PySem.W.Frag) (mg : Str → Option Value) (base : Heap) (CX : CXT) (k : Nat) (f : Addr) (fd : FuncData) (ps : List Str) (sp : Sp) : Prop where
  len : ∀ vs H Q E, sp vs H Q E → vs.length = ps.length
  go : ∀ (A : Around) (outer : List Env) (s : Shared) (H : Hp) (args : Args) (us : List Value) (vs : List V) (Q : VK) (E : XK), A.guards = some [] → Room k A → Env0 P w K mg base A outer s H →
    BindsTo s fd args (ps.zip us) → Vals vs us → sp vs H Q E → codeAny (model P w) A (.call (.ref f) args) (CR CX outer P w H s Q E) s

section
variable {P : Program} {w : World} {K : PySem.W.Frag} {mg : Str → Option Value} {base : Heap}
theorem FnG.of {CX : CXT} {k : Nat} {f : Addr} {fd : FuncData} {ps : List Str} {sp : Sp} (F : FnOk P w K mg base CX k f fd ps sp) : FnG P w K mg base CX k f fd ps sp :=
  ⟨F.len, fun A outer s H args us vs Q E _ hr e b v h => F.run A outer s H args us vs Q E hr e b v h⟩

end

section
variable {X : Cx} {CX : CXT} {k : Nat} {f : Addr} {fd : FuncData} {ps : List Str} {sp : Sp} {dvs : List V} {ds : List Value} {E : XK} {x : Str} {p pos : Pos} {e : Expr} {es : List Expr} {t : TA}
/-- f(e, ..) where no repr is under way -/
theorem pe_callG (F : FnG X.prog X.w X.K X.mg X.base CX k f fd ps sp) (gd : X.A.guards = some []) (hr : Room k X.A) (hg : Gl X x) (hm : X.mg x = some (.ref f)) (hk : PySem.W.keepIn X.K (.ref f) = true) (hb : Binds X.K fd ps ds) (hd : Vals dvs ds) (hx : Passes CX X E)
    (ha : PA X (e :: es) t) (hdb : (x == ("__debug__" : Str)) = false := by decide) (he : starEach (e :: es) X.env = (false, eval e X.env) :: starEach es X.env := by rfl) (hpl : (backTo pos (starEach es X.env)).any (·.1) = false := by rfl) :
    PE X (.Call (.Name x p) (e :: es) [] pos) (tCall sp dvs E t) := by
  refine ⟨fun pins s σ H Q I h => wpAny_Call_Name_kw (ld_glob I hg hm ?_ hdb)⟩
  refine PySem.W.callWith_K (h₀ := X.base) I.ok.mod.kin hk (thn (ha.run pos pins s σ H _ I h) fun us s1 hh => ?_) he hpl
  obtain ⟨vs, H1, J, r, q⟩ := hh
  refine ⟨J.kIn, ?_⟩
  have rr : Vals (vs ++ dvs) (us ++ ds) := r.append hd
  have ll : (us ++ ds).length = ps.length := rr.length.symm.trans (F.len _ _ _ _ q)
  refine wpAny_call (codeAny_mono (F.go X.A X.stack s1 H1 ⟨us, []⟩ (us ++ ds) (vs ++ dvs) Q E gd hr J.env0 (hb s1 us J.kIn ll) rr q) fun res s2 hq => ?_)
  match res, hq with
  | .error er, hq => exact hx pins σ H1 s1 er s2 J hq
  | .ok (.ret u), hq => exact J.after hq
  | .ok .next, hq => exact hq.elim
  | .ok .brk, hq => exact hq.elim
  | .ok .cont, hq => exact hq.elim
end
end L2.Fu
/-! ## Sets of texts, and how they are sorted -/
namespace L2.Fu
open PySem PySem.Spec PyProof.Rows
open PySem.Froz (SD sObj TxOk addTx tailTx add_x add_ok is_str get_upd)
/-- at a the set of the texts l stands, and its table can be walked -/
def TxR (P : Program) (w : World) (h : Heap) (a : Addr) (l : List Str) : Prop :=
  ∃ D : SD, h.get? a = some (sObj "set" D) ∧ TxOk P w D l ∧ l.Nodup ∧ l.length < scanBound ∧ Ris D.2.2.place.toList ∧ (w.params.followText "set-order" = true ∨ D.2.2.led = true)
def SetT (P : Program) (w : World) (a : Addr) (l : List Str) : HO := .ext fun h => TxR P w h a l
theorem ris_tail (ep : Nat) (es : Array (Int × Value)) {t : SetTable} (wd : Bool) (r : Ris t.place.toList) : Ris (tailTx ep es t wd).2.2.place.toList := by
  unfold tailTx
  split
  · exact relayAll_ris t es _
  · exact r
theorem led_tail (ep : Nat) (es : Array (Int × Value)) (t : SetTable) (wd : Bool) : (tailTx ep es t wd).2.2.led = t.led := by
  unfold tailTx
  split
  · exact relayAll_led t es _
  · rfl
theorem ris_add (h : Int) (v : Value) {D : SD} (r : Ris D.2.2.place.toList) : Ris (addTx h v D).2.2.place.toList := by
  unfold addTx
  refine ris_tail _ _ _ ?_
  have q := layNew_ris D.2.2 D.1 h v r
  split
  · exact q
  · exact q
theorem led_add (h : Int) (v : Value) (D : SD) : (addTx h v D).2.2.led = D.2.2.led := by
  unfold addTx
  rw [led_tail]
  have q := layNew_led D.2.2 D.1 h v
  split
  · exact q
  · exact q
section
variable {P : Program} {w : World} {h h' : Heap} {a : Addr} {l : List Str}
theorem TxR.at (R : TxR P w h a l) (k : ∀ o, h.get? a = some o → h'.get? a = some o) : TxR P w h' a l := by
  obtain ⟨D, e, r⟩ := R
  exact ⟨D, k _ e, r⟩
theorem setT_new {H : Hp} (R : TxR P w h a l) : ObjOk P w H h a (SetT P w a l) := by
  obtain ⟨D, e, r⟩ := id R
  exact ⟨R, ⟨_, e⟩, fun h1 h2 p k => p.at k⟩
theorem TxR.setOf (R : TxR P w h a l) : h.SetOf (strKind P w) a (fun k => decide (k ∈ l)) l.length := by
  obtain ⟨⟨es, ep, t⟩, e, F, nd, hb, _⟩ := R
  have sz : es.size = l.length := F.sz
  exact ⟨_, es, ep, t, e, ⟨rfl, rfl, rfl⟩, rfl, F.el, fun k => by rw [decide_eq_true_eq]; exact F.mem k, by rw [sz]; exact hb, F.fit, sz⟩
end
section
variable {P : Program} {w : World} {A : Around} {E : Value → Shared → Prop} {s : Shared} {a : Addr} {l : List Str}
/-- add of a text that is there -/
theorem had_x {T : String} {D : SD} {k : Str} {u : Tok} {Q : Bool → Shared → Prop} (ho : s.heap.get? a = some (sObj T D)) (F : TxOk P w D l) (hk : k ∈ l) (hb : l.length < scanBound) (h : Q false s) :
    wpAny (model P w) A (setAddHashed a (.str k u) (hashStr w k)) Q E s := by
  obtain ⟨es, ep, t⟩ := D
  have sz : es.size = l.length := F.sz
  have el : ElemsOf (strKind P w) es.toList := F.el
  unfold setAddHashed setAddHashedIn
  refine wpAny_holding (wpAny_bind (wpAny_setState_of ho rfl F.fit ?_))
  dsimp only
  rw [byScan_of (knd := strKind P w) rfl (by rw [sz]; exact hb) el]
  simp only [↓reduceIte]
  unfold setAddByScan
  refine wpAny_bind (wpAny_bind (wpAny_rule (wpAny_bind (wpAny_setScan_of (knd := strKind P w) (k := k) (is_str k u) ho rfl F.fit el ?_))))
  obtain ⟨e, he, q⟩ := (F.mem k).mp hk
  cases hfi : List.findIdx? (fun e => (strKind P w).is k e.2) es.toList with
  | some j =>
    dsimp only
    exact wpAny_pure (wpAny_pure h)
  | none =>
    have c := List.findIdx?_eq_none_iff.mp hfi e he
    rw [q] at c
    cases c
/-- set.add of a text -/
theorem setT_add {k : Str} {u : Tok} {Q : Value → Shared → Prop} (R : TxR P w s.heap a l) (room : l.length + 1 < scanBound)
    (hQ : ∀ h', Heap.SameBut a s.heap h' → TxR P w h' a (if k ∈ l then l else k :: l) → Q .none { s with heap := h', toks := s.toks + 1 }) :
    wpAny (model P w) A (call (.builtin "set.add") [.ref a, .str k u]) Q E s := by
  refine wpAny_call_entry F.slot_set_add R.setOf.typeIs F.entry_set_add ?_ (F.args_set_add_2 _ _)
  unfold Builtin.«set.add» Builtin.Frozenset.oneOther
  simp only [List.isEmpty_nil, bind_assoc]
  unfold Builtin.Frozenset.addrOf setAdd
  refine wpAny_bind (wpAny_pure ?_)
  try dsimp only
  refine wpAny_bind (wpAny_pure ?_)
  try dsimp only
  refine wpAny_bind (wpAny_holding (wpAny_bind ((strKind P w).pyHash (is_str k u) ?_)))
  obtain ⟨D, e, F, nd, hb, r, ld⟩ := R
  have fin : ∀ (h' : Heap), Heap.SameBut a s.heap h' → TxR P w h' a (if k ∈ l then l else k :: l) → wpAny (model P w) A.in1 (ret Value.none) (fun v s' => ∃ z, v = .done (.ret z) ∧ Q z s') E { s with heap := h', toks := s.toks + 1 } := fun h' sb t => wpAny_pure ⟨_, rfl, hQ h' sb t⟩
  by_cases hk : k ∈ l
  · refine had_x (s := { s with toks := s.toks + 1 }) e F hk hb ?_
    exact fin s.heap (Heap.SameBut.refl a s.heap) (by rw [if_pos hk]; exact ⟨D, e, F, nd, hb, r, ld⟩)
  · refine add_x (s := { s with toks := s.toks + 1 }) e F hk room ?_
    refine fin _ (Heap.SameBut.update s.heap a _) ?_
    rw [if_neg hk]
    exact ⟨_, get_upd _ e rfl, add_ok u F, List.nodup_cons.mpr ⟨hk, nd⟩, room, ris_add _ _ r, ld.imp id fun z => by rw [led_add]; exact z⟩
end
/-- a list that has all of l, and no more places than l, is an arrangement of l -/
theorem perm_of_all {α : Type} [DecidableEq α] : ∀ {l ks : List α}, l.Nodup → ks.length = l.length → (∀ x ∈ l, x ∈ ks) → ks.Perm l
  | [], ks, _, hl, _ => by
    have e : ks = [] := List.length_eq_zero_iff.mp hl
    rw [e]
  | x :: l, ks, nd, hl, ha => by
    have hx : x ∈ ks := ha x List.mem_cons_self
    have p := List.perm_cons_erase hx
    have h1 : (ks.erase x).length = l.length := by
      have := p.length_eq
      rw [List.length_cons] at this hl
      omega
    have h2 : ∀ y ∈ l, y ∈ ks.erase x := fun y hy => by
      have ne : y ≠ x := fun z => (List.nodup_cons.mp nd).1 (z ▸ hy)
      exact (List.mem_erase_of_ne ne).mpr (ha y (List.mem_cons_of_mem _ hy))
    exact p.trans (List.Perm.cons x (perm_of_all (List.nodup_cons.mp nd).2 h1 h2))
def textOf : Value → Str
  | .str x _ => x
  | _ => ⟨#[]⟩
theorem strs_of : ∀ (vs : List Value), (∀ v ∈ vs, ∃ x t, v = Value.str x t) → StrsAre vs (vs.map textOf)
  | [], _ => .nil
  | v :: vs, h => by
    obtain ⟨x, t, rfl⟩ := h v List.mem_cons_self
    exact .cons x t (strs_of vs fun u hu => h u (List.mem_cons_of_mem _ hu))
section
variable {X : Cx}
theorem setT_get {pins : List (Addr × Obj)} {σ : St} {H : Hp} {s : Shared} {a : Addr} {l : List Str} (I : Inv X pins σ H s) (ha : H a = some (SetT X.prog X.w a l)) : TxR X.prog X.w s.heap a l := (I.hok a _ ha).1
theorem fresh_T {P : Program} {w : World} {h : Heap} : TxR P w (h.push { cls := .type "set", dict := none, data := .set #[] 0 (.fresh 0 0 (!w.params.followText "set-order")) }) h.objs.size [] := by
  refine ⟨(#[], 0, .fresh 0 0 (!w.params.followText "set-order")), Heap.get?_push_size _ rfl, .nil rfl, List.nodup_nil, by decide, List.Pairwise.nil, ?_⟩
  show _ ∨ (!w.params.followText "set-order") = true
  cases w.params.followText "set-order"
  · exact .inr rfl
  · exact .inl rfl
/-- a text is added, whatever runs -/
theorem addT_ok {pins : List (Addr × Obj)} {σ : St} {H : Hp} {s : Shared} {a : Addr} {l : List Str} {k : Str} {u : Tok} {A : Around} {E : Value → Shared → Prop} {Q : Value → Shared → Prop} (I : Inv X pins σ H s) (ha : H a = some (SetT X.prog X.w a l)) (room : l.length + 1 < scanBound)
    (h : ∀ s', Inv X pins σ (upd H a (SetT X.prog X.w a (if k ∈ l then l else k :: l))) s' → Q .none s') : wpAny (model X.prog X.w) A (call (.builtin "set.add") [.ref a, .str k u]) Q E s := by
  refine setT_add (setT_get I ha) room fun h' sb t => h _ ?_
  have he : ∃ o, h'.get? a = some o := by
    obtain ⟨D, e, _⟩ := id t
    exact ⟨_, e⟩
  exact I.write (x := a) (e := a) (t' := s.toks + 1) (by rw [ha]; trivial) (.inl rfl) (fun b o hb ho => (sb.2 b hb).trans ho) he (setT_new t)
/-- sorted(found) -/
def rSortT (P : Program) (w : World) : List V → Hp → VK → Prop := fun vs H Q => ∃ (a : Addr) (l : List Str), vs = [V.ref a] ∧ H a = some (SetT P w a l) ∧ l.length < 64 ∧
  ∀ (ys : List Str) (p : Addr), ys.Perm l → sortedS ys = true → H p = none → Q (.ref p) (upd H p (.lst (ys.map V.str)))
theorem cr_sortT (hc : X.calm = true) : CallR X (.builtin "sorted") (rSortT X.prog X.w) := by
  intro pins s σ H xs us Q I r h
  obtain ⟨a, l, rfl, ha, h64, q⟩ := h
  obtain ⟨u, rfl, ru⟩ := vals1 r
  cases ru
  obtain ⟨⟨es, ep, t⟩, e, F, nd, hb, rs, ld⟩ := setT_get I ha
  have sz : es.size = l.length := F.sz
  have el : ElemsOf (strKind X.prog X.w) es.toList := F.el
  refine Calls.call_function_entry kind_sorted plain_sorted entry_sorted (args_sorted1 _) ?_
  unfold Builtin.«sorted»
  refine wpAny_bind (m := checkCount "sorted" 1 1 _) (wpAny_pure ?_)
  refine wpAny_bind (collect_set (A := X.A.in1) (I.ok.hd hc) ⟨_, e, rfl, rfl⟩ F.fit (by rw [sz]; exact hb) rs ld fun s1 vs k1 hz g1 o1 pm => ?_)
  have isT : ∀ v ∈ vs, ∃ x t, v = Value.str x t := fun v hv => by
    obtain ⟨en, he, ev⟩ := List.mem_map.mp (pm.mem_iff.mp hv)
    obtain ⟨⟨k, hk, _⟩, _⟩ := el en he
    obtain ⟨t, et⟩ := Value.isStrOf_shape (x := k) (v := en.2) hk
    exact ⟨k, t, by rw [← ev]; exact et⟩
  have hS : StrsAre vs (vs.map textOf) := strs_of vs isT
  have len : (vs.map textOf).length = l.length := by rw [List.length_map, pm.length_eq, List.length_map, Array.length_toList]; exact sz
  have pl : (vs.map textOf).Perm l := perm_of_all nd len fun k hk => by
    obtain ⟨en, he, hi⟩ := (F.mem k).mp hk
    obtain ⟨t, et⟩ := Value.isStrOf_shape (x := k) (v := en.2) hi
    refine List.mem_map.mpr ⟨en.2, pm.mem_iff.mpr (List.mem_map.mpr ⟨en, he, rfl⟩), ?_⟩
    rw [et]
    rfl
  have vl : vs.length = l.length := by rw [List.length_map] at len; exact len
  obtain ⟨h1, g', d', t', o'⟩ := s1
  have J : Inv X pins σ H ⟨h1, g', d', t', o'⟩ := I.call' (ch := []) o1 (Un.kept k1) (I.hok.kept k1) (by rw [g1]; exact I.bare) (fun _ z => nomatch z)
  refine wpAny_bind (wpAny_newList ?_ (by rw [vl, sizeLine_eq]; omega))
  have hoL : (h1.push (seqObj "list" vs.toArray 0)).get? h1.objs.size = some (seqObj "list" vs.toArray 0) := Heap.get?_push_size _ rfl
  show wpAny _ _ _ _ _ (⟨h1.push (seqObj "list" vs.toArray 0), g', d', t', o'⟩ : Shared)
  refine wpAny_bind (wpAny_holding (wpAny_call_entry slot_list_sort ⟨_, hoL, rfl⟩ entry_list_sort
    (list_sort_treeK strKind_oneLt (s := ⟨h1.push (seqObj "list" vs.toArray 0), g', d', t', o'⟩) hoL hS.keysOf (fun v1 v2 rest e => keyKind_strs (by rw [← e]; exact hS)) (by rw [vl]; exact h64) fun st' hp hs => ⟨_, rfl, ?_⟩) (args_list_sort _)))
  obtain ⟨ys, y1, y2, y3⟩ := sorted_out_str hS hp hs
  obtain ⟨c, hcL⟩ := sortedHeap_at (vs := vs) (out := (arrOf st').map (·.2)) hoL
  have ly : (ys.map V.str).length ≤ sizeLine := by
    rw [List.length_map, y2.length_eq, len]
    exact Nat.le_trans (Nat.le_of_lt h64) (by decide)
  refine wpAny_pure ⟨_, rfl, .ref h1.objs.size, upd H h1.objs.size (.lst (ys.map V.str)), J.laid (t' := t') (fun b o eb => ?_) (Nat.le_refl _)
    (show ObjOk X.prog X.w _ _ _ (.lst (ys.map V.str)) from ⟨ly, ((arrOf st').map (·.2)).toList, c, vals_of_strs y1, by rw [Array.toArray_toList]; exact hcL⟩), rfl, q ys _ (y2.trans pl) y3 (J.hok.fresh (Nat.le_refl _))⟩
  have lb : b < h1.objs.size := Heap.lt_size eb
  rw [sortedHeap_old (Nat.ne_of_lt lb) (by rw [size_push']; exact Nat.lt_succ_of_lt lb)]
  exact Heap.get?_push_of_some _ eb
end
end L2.Fu
/-! ## set(xs), xs a list of texts -/
namespace L2.Fu
open PySem PySem.Spec PyProof.Rows
open PySem.Froz (SD sObj TxOk addTx tailTx add_x add_ok is_str get_upd)
def addL (l : List Str) (k : Str) : List Str := if k ∈ l then l else k :: l
theorem mem_addL {l : List Str} {k x : Str} : x ∈ addL l k ↔ x ∈ l ∨ x = k := by
  unfold addL
  split
  · rename_i h
    exact ⟨.inl, fun z => z.elim id fun e => e ▸ h⟩
  · rw [List.mem_cons]
    exact Or.comm
theorem len_addL (l : List Str) (k : Str) : (addL l k).length ≤ l.length + 1 := by
  unfold addL
  split
  · exact Nat.le_succ _
  · exact Nat.le_refl _
def allL (ts : List Str) : List Str := ts.foldl addL []
theorem allL_snoc (ts : List Str) (k : Str) : allL (ts ++ [k]) = addL (allL ts) k := by
  unfold allL
  rw [List.foldl_append]
  rfl
theorem fold_mem : ∀ (ts l : List Str) (x : Str), x ∈ ts.foldl addL l ↔ x ∈ l ∨ x ∈ ts
  | [], l, x => by simp
  | t :: ts, l, x => by
    rw [List.foldl_cons, fold_mem ts, mem_addL, List.mem_cons]
    exact or_assoc
theorem mem_allL (ts : List Str) (x : Str) : x ∈ allL ts ↔ x ∈ ts := by
  unfold allL
  rw [fold_mem]
  simp
theorem fold_len : ∀ (ts l : List Str), (ts.foldl addL l).length ≤ l.length + ts.length
  | [], l => Nat.le_refl _
  | t :: ts, l => by
    have a := fold_len ts (addL l t)
    have b := len_addL l t
    rw [List.foldl_cons, List.length_cons]
    omega
theorem len_allL (ts : List Str) : (allL ts).length ≤ ts.length := by
  have := fold_len ts []
  simpa [allL] using this
theorem strs_get : ∀ {us : List Value} {xs : List Str} {i : Nat} {v : Value}, StrsAre us xs → us[i]? = some v → ∃ t x, xs[i]? = some x ∧ v = .str x t
  | _, _, _, _, .nil, e => by simp at e
  | _, _, 0, _, .cons y t _, e => by simp at e; exact ⟨t, y, rfl, e.symm⟩
  | _, _, i + 1, v, .cons y t r, e => by
    obtain ⟨t', x, h1, h2⟩ := strs_get (i := i) (v := v) r (by simpa using e)
    exact ⟨t', x, by simpa using h1, h2⟩
section
variable {P : Program} {w : World} {A : Around} {E : Value → Shared → Prop} {s : Shared}
theorem code_newT (v : Value) {Q1 : Value → Shared → Prop}
    (h : Q1 (.ref s.heap.objs.size) { s with heap := s.heap.push { cls := .type "set", dict := none, data := .set #[] 0 (.fresh 0 0 (!w.params.followText "set-order")) } }) :
    codeAny (model P w) A (.call (.builtin "set.__new__") ⟨[.type "set", v], []⟩) (wants Q1 E) s := by
  refine codeAny_of_tree ?_
  show wpAny _ A.in1 (checkBuiltinCall "set.__new__" ⟨[.type "set", v], []⟩ >>= fun _ => again (.builtin "set.__new__" ⟨[.type "set", v], []⟩)) _ _ s
  refine wpAny_bind (wpAny_of_eq (PySem.F.newCall_set_1 v) (wpAny_pure ⟨plainId_quiet PySem.F.plain_set_new _, codeAny_builtin PySem.F.entry_set_new ?_⟩))
  rw [Around.under_plainId PySem.F.plain_set_new _]
  unfold Builtin.«set.__new__» Builtin.Frozenset.newClass
  have hsub := sub_set_self
  obtain ⟨hp, g, d, tk, os⟩ := s
  dsimp only
  wp_walk
  refine wpAny_askSetting (wpAny_pure ?_)
  dsimp only
  simp only [newObj]
  exact wpAny_bind (wpAny_alloc (wpAny_pure (wpAny_pure h)))
/-- the texts of what is walked are added one by one -/
theorem loopT {R : Result → Shared → Prop} {I : Addr} {fp wr : List Addr} {G : Array GenState → Array GenState → Prop} {ts : List Str} {Pv : Nat → Value → Prop} {St : Nat → Shared → Prop} (W : WalksS P w A.in1 I fp wr G ts.length Pv St) (S : Addr) (hSf : S ∉ fp)
    (hv : ∀ i v, Pv i v → ∃ t x, ts[i]? = some x ∧ v = .str x t) (hb : ts.length + 1 < scanBound) :
    ∀ (k i : Nat) (s : Shared), ts.length - i = k → i ≤ ts.length → St i s → TxR P w s.heap S (allL (ts.take i)) →
      (∀ s', Moved (S :: wr) G s s' → TxR P w s'.heap S (allL ts) → R (.ok (.ret .none)) s') → codeAny (model P w) A (.builtin "set.update.loop" ⟨[.ref S, .ref I], []⟩) R s := by
  have off : S ∉ wr := fun h => hSf (W.sub _ h)
  have sub : ∀ b ∈ wr, b ∈ S :: wr := fun b hb => List.mem_cons_of_mem _ hb
  intro k
  induction k with
  | zero =>
    intro i s hk hi st R0 done
    obtain rfl : i = ts.length := by omega
    rw [List.take_length] at R0
    refine codeAny_builtin PyProof.Rows.F.entry_set_update_loop ?_
    rw [Around.under_plainId PyProof.Rows.F.plain_set_update_loop _]
    show wpAny _ A.in1 (pyNext (.ref I) >>= _) _ _ s
    refine wpAny_bind (W.done s _ _ st fun s' hm => ?_)
    show wpAny _ A.in1 (ret Value.none) _ _ s'
    exact wpAny_pure (done s' (hm.mono sub) (R0.at fun o e => hm.heap S _ off e))
  | succ k ih =>
    intro i s hk hi st R0 done
    have lt : i < ts.length := by omega
    refine codeAny_builtin PyProof.Rows.F.entry_set_update_loop ?_
    rw [Around.under_plainId PyProof.Rows.F.plain_set_update_loop _]
    show wpAny _ A.in1 (pyNext (.ref I) >>= _) _ _ s
    refine wpAny_bind (W.item i s _ _ lt st fun v s' hP st' hm => ?_)
    obtain ⟨t, x, hx, rfl⟩ := hv i v hP
    have R1 : TxR P w s'.heap S (allL (ts.take i)) := R0.at fun o e => hm.heap S _ off e
    have l1 := len_allL (ts.take i)
    rw [List.length_take] at l1
    have tk1 : ts.take (i + 1) = ts.take i ++ [x] := by rw [List.take_add_one, hx]; rfl
    show wpAny _ A.in1 (holding [Value.str x t] (setAdd S (.str x t)) >>= _) _ _ s'
    refine wpAny_bind (wpAny_holding ?_)
    unfold setAdd
    refine wpAny_holding (wpAny_bind ((strKind P w).pyHash (is_str x t) ?_))
    obtain ⟨D, e, F, nd, hb0, r, ld⟩ := R1
    have goOn : ∀ (h' : Heap), Heap.SameBut S s'.heap h' → TxR P w h' S (addL (allL (ts.take i)) x) → codeAny (model P w) A (.builtin "set.update.loop" ⟨[.ref S, .ref I], []⟩) R { s' with heap := h', toks := s'.toks + 1 } := by
      intro h' sb R2
      rw [← allL_snoc, ← tk1] at R2
      refine ih (i + 1) _ (by omega) lt (W.frame _ s' _ _ st' (Nat.le_succ _) fun b hb o e => ?_) R2 fun s2 hm2 R3 => ?_
      · rw [sb.2 b (fun z : b = S => hSf (by rw [← z]; exact hb))]
        exact e
      · refine done s2 (Moved.trans W.gtrans ((hm.mono sub).then_heap (Nat.le_succ _) fun b o hb e => ?_) hm2) R3
        rw [sb.2 b (fun z : b = S => hb (by rw [z]; exact List.mem_cons_self))]
        exact e
    by_cases hk : x ∈ allL (ts.take i)
    · refine had_x (s := { s' with toks := s'.toks + 1 }) e F hk hb0 ?_
      exact wpAny_pure ⟨plainId_quiet PyProof.Rows.F.plain_set_update_loop _, goOn _ (Heap.SameBut.refl S s'.heap) (by unfold addL; rw [if_pos hk]; exact ⟨D, e, F, nd, hb0, r, ld⟩)⟩
    · have room : (allL (ts.take i)).length + 1 < scanBound := by omega
      refine add_x (s := { s' with toks := s'.toks + 1 }) e F hk room ?_
      refine wpAny_pure ⟨plainId_quiet PyProof.Rows.F.plain_set_update_loop _, goOn _ (Heap.SameBut.update s'.heap S _) ?_⟩
      unfold addL
      rw [if_neg hk]
      exact ⟨_, get_upd _ e rfl, add_ok t F, List.nodup_cons.mpr ⟨hk, nd⟩, room, ris_add _ _ r, ld.imp id fun z => by rw [led_add]; exact z⟩
/-- set(xs) at the library's level -/
theorem set_of_list {l : Addr} {items : Array Value} {ts : List Str} {Q : Value → Shared → Prop} (hh : A.handled = none) (hl : s.heap.IsList l items) (hi : StrsAre items.toList ts) (hb : ts.length + 1 < scanBound)
    (h : ∀ (h' : Heap) (tk : Nat), TxR P w h' s.heap.objs.size (allL ts) → (∀ b o, s.heap.get? b = some o → h'.get? b = some o) → Q (.ref s.heap.objs.size) { s with heap := h', toks := tk }) :
    wpAny (model P w) A (call (.type "set") [.ref l]) Q E s := by
  obtain ⟨c, tl, hmro⟩ := PySem.F.called_set.mro
  have hmade := PySem.F.called_set.made
  have hsub := PySem.F.called_set.sub
  refine wpAny_call (codeAny_of_tree ?_)
  show wpAny _ _ (callAny (.type "set") _) _ _ _
  refine wpAny_pure ⟨Code.quiet_builtin _ (by decide +kernel), codeAny_builtin PySem.F.entry_type_call ?_⟩
  rw [Around.under_plain (weight_type_call_type "set" [.ref l] []) rfl]
  have h1 := PySem.F.called_set.notType
  have h2 := PySem.F.called_set.canCreate
  have hct := PySem.F.typeCall_set_1 (.ref l)
  repeat (any_goals (first | assumption | wp_step))
  refine codeAny_mono (code_newT (.ref l) (E := E) (Q1 := fun obj t => obj = .ref s.heap.objs.size ∧ t = { s with heap := s.heap.push { cls := .type "set", dict := none, data := .set #[] 0 (.fresh 0 0 (!w.params.followText "set-order")) } }) ⟨rfl, rfl⟩) fun r t hr => ?_
  match r, hr with
  | .error e, hr => exact hr
  | .ok .next, hr => exact hr.elim
  | .ok .brk, hr => exact hr.elim
  | .ok .cont, hr => exact hr.elim
  | .ok (.ret obj), hr =>
    obtain ⟨rfl, rfl⟩ := hr
    generalize hz : s.heap.push { cls := .type "set", dict := none, data := .set #[] 0 (.fresh 0 0 (!w.params.followText "set-order")) } = hS
    have new : TxR P w hS s.heap.objs.size [] := by rw [← hz]; exact fresh_T
    have keep : ∀ b o, s.heap.get? b = some o → hS.get? b = some o := fun b o e => by rw [← hz]; exact Heap.get?_push_of_some _ e
    have size : hS.objs.size = s.heap.objs.size + 1 := by rw [← hz, Heap.size_push]
    have hT : Shared.TypeIs { s with heap := hS } (.ref s.heap.objs.size) "set" := new.setOf.typeIs
    have hli := PySem.F.called_set.init.lookup
    have hbi := PySem.F.called_set.init.bind (.ref s.heap.objs.size)
    repeat (any_goals (first | assumption | wp_step))
    refine codeAny_mono (codeAny_call_builtin (R := wants (fun r s2 => r = .none ∧ ∃ h' tk, s2 = { s with heap := h', toks := tk } ∧ TxR P w h' s.heap.objs.size (allL ts) ∧ (∀ b o, s.heap.get? b = some o → h'.get? b = some o)) E)
      PySem.F.called_set.init.plain PySem.F.entry_set_init (check_set_init_1 hT ?_)) fun r2 s2 hr2 => ?_
    · obtain ⟨ol, hol, hcl, nl, hdl⟩ := id hl
      obtain ⟨ocls, odict, odata, oslots⟩ := ol
      simp only at hcl hdl
      subst hcl
      subst hdl
      have hol2 : hS.get? l = some { cls := .type "list", dict := odict, data := .seq items nl, slots := oslots } := keep _ _ hol
      have hsls := PySem.F.sub_list_set
      have hslf := PySem.F.sub_list_frozenset
      have hne : (Value.type "list" == Value.type "dict") = false := by decide
      have hl2 : hS.IsList l items := ⟨_, hol2, rfl, nl, rfl⟩
      obtain ⟨D0, e0, F0, _⟩ := id new
      have hS0 : hS.get? s.heap.objs.size = some { cls := .type "set", dict := none, data := .set #[] 0 (.fresh 0 0 (!w.params.followText "set-order")) } := by rw [← hz]; exact Heap.get?_push_size _ rfl
      unfold Builtin.«set.__init__» noKeywords Builtin.Frozenset.updateFrom
      generalize hPI : pyIter = PI
      wp_walk
      subst hPI
      refine wpAny_pyIter_list hl2 (wpAny_bind (wpAny_runValue ?_))
      have low : l < s.heap.objs.size := Heap.lt_size hol
      have nI : l ≠ hS.objs.size := by rw [size]; exact Nat.ne_of_lt (Nat.lt_succ_of_lt low)
      have nf : s.heap.objs.size ∉ [hS.objs.size, l] := by
        rw [size]
        simp only [List.mem_cons, List.not_mem_nil, or_false, not_or]
        exact ⟨Nat.ne_of_lt (Nat.lt_succ_self _), Nat.ne_of_gt low⟩
      have lt : items.size = ts.length := by rw [← Array.length_toList]; exact hi.length
      have walk := (Walks.list (prog := P) (w := w) (A := A.in1.in1.in1) (by simp [hh]) hS.objs.size l nI items).toS
      rw [lt] at walk
      refine loopT walk s.heap.objs.size nf (fun i v hv => ?_) hb (ts.length - 0) 0 _ rfl (Nat.zero_le _) ⟨⟨_, Heap.get?_push_size _ rfl, rfl, rfl⟩, hl2.push _⟩ (new.at fun o e => Heap.get?_push_of_some _ e) fun s3 hm R3 => ?_
      · have hv' : items.toList[i]? = some v := by rw [Array.getElem?_toList]; exact hv
        exact strs_get hi hv'
      · obtain ⟨h3, g3, d3, tk3, os3⟩ := s3
        have eg : g3 = s.gens := hm.gens
        have ed : d3 = s.drawn := hm.drawn
        have eo : os3 = s.os := hm.os
        subst eg
        subst ed
        subst eo
        show wpAny _ _ _ _ _ _
        refine wpAny_pure ?_
        show wpAny _ _ (ret Value.none) _ _ _
        refine wpAny_pure ⟨rfl, h3, tk3, rfl, R3, fun b o e => ?_⟩
        have lb : b < s.heap.objs.size := Heap.lt_size e
        refine hm.heap b o ?_ (Heap.get?_push_of_some _ (keep b o e))
        simp only [List.mem_cons, List.not_mem_nil, or_false, not_or]
        rw [size]
        exact ⟨Nat.ne_of_lt lb, Nat.ne_of_lt (Nat.lt_succ_of_lt lb)⟩
    · match r2, hr2 with
      | .error e, hr2 => exact hr2
      | .ok .next, hr2 => exact hr2.elim
      | .ok .brk, hr2 => exact hr2.elim
      | .ok .cont, hr2 => exact hr2.elim
      | .ok (.ret r), hr2 =>
        obtain ⟨rfl, h', tk, rfl, R3, k3⟩ := hr2
        repeat (any_goals (first | assumption | wp_step))
        exact h _ _ R3 k3
end
section
variable {X : Cx}
def rSetOfL (K : PySem.W.Frag) (P : Program) (w : World) : List V → Hp → VK → Prop := fun xs H Q => ∃ (a : Addr) (ts : List Str), xs = [.ref a] ∧ SqL K H a (ts.map V.str) ∧ ts.length + 1 < scanBound ∧ ∀ p, H p = none → Q (.ref p) (upd H p (SetT P w p (allL ts)))
theorem cr_setOfL (hc : X.calm = true) : CallR X (.type "set") (rSetOfL X.K X.prog X.w) := by
  intro pins s σ H xs us Q I r h
  obtain ⟨a, ts, rfl, hs, hb, q⟩ := h
  obtain ⟨u, rfl, ru⟩ := vals1 r
  cases ru
  obtain ⟨its, rv, hl, _⟩ := I.list hs
  refine set_of_list (I.ok.hd hc) hl.isList (by simpa using rv.strs) hb fun h' tk R k => ?_
  exact ⟨.ref _, upd H s.heap.objs.size (SetT X.prog X.w s.heap.objs.size (allL ts)), I.laid (t' := tk) k (Nat.le_refl _) (setT_new R), rfl, q _ (I.hok.fresh (Nat.le_refl _))⟩
end
end L2.Fu
/-! ## set(t), t a tuple of texts -/
namespace L2.Fu
open PySem PySem.Spec PyProof.Rows
section
variable {P : Program} {w : World} {A : Around} {E : Value → Shared → Prop} {s : Shared}

theorem set_of_tup {l : Addr} {items : Array Value} {ts : List Str} {Q : Value → Shared → Prop} (hh : A.handled = none) (hl : s.heap.IsTuple l items) (hi : StrsAre items.toList ts) (hb : ts.length + 1 < scanBound)
    (h : ∀ (h' : Heap) (tk : Nat), TxR P w h' s.heap.objs.size (allL ts) → (∀ b o, s.heap.get? b = some o → h'.get? b = some o) → Q (.ref s.heap.objs.size) { s with heap := h', toks := tk }) :
    wpAny (model P w) A (call (.type "set") [.ref l]) Q E s := by
  obtain ⟨c, tl, hmro⟩ := PySem.F.called_set.mro
  have hmade := PySem.F.called_set.made
  have hsub := PySem.F.called_set.sub
  refine wpAny_call (codeAny_of_tree ?_)
  show wpAny _ _ (callAny (.type "set") _) _ _ _
  refine wpAny_pure ⟨Code.quiet_builtin _ (by decide +kernel), codeAny_builtin PySem.F.entry_type_call ?_⟩
  rw [Around.under_plain (weight_type_call_type "set" [.ref l] []) rfl]
  have h1 := PySem.F.called_set.notType
  have h2 := PySem.F.called_set.canCreate
  have hct := PySem.F.typeCall_set_1 (.ref l)
  repeat (any_goals (first | assumption | wp_step))
  refine codeAny_mono (code_newT (.ref l) (E := E) (Q1 := fun obj t => obj = .ref s.heap.objs.size ∧ t = { s with heap := s.heap.push { cls := .type "set", dict := none, data := .set #[] 0 (.fresh 0 0 (!w.params.followText "set-order")) } }) ⟨rfl, rfl⟩) fun r t hr => ?_
  match r, hr with
  | .error e, hr => exact hr
  | .ok .next, hr => exact hr.elim
  | .ok .brk, hr => exact hr.elim
  | .ok .cont, hr => exact hr.elim
  | .ok (.ret obj), hr =>
    obtain ⟨rfl, rfl⟩ := hr
    generalize hz : s.heap.push { cls := .type "set", dict := none, data := .set #[] 0 (.fresh 0 0 (!w.params.followText "set-order")) } = hS
    have new : TxR P w hS s.heap.objs.size [] := by rw [← hz]; exact fresh_T
    have keep : ∀ b o, s.heap.get? b = some o → hS.get? b = some o := fun b o e => by rw [← hz]; exact Heap.get?_push_of_some _ e
    have size : hS.objs.size = s.heap.objs.size + 1 := by rw [← hz, Heap.size_push]
    have hT : Shared.TypeIs { s with heap := hS } (.ref s.heap.objs.size) "set" := new.setOf.typeIs
    have hli := PySem.F.called_set.init.lookup
    have hbi := PySem.F.called_set.init.bind (.ref s.heap.objs.size)
    repeat (any_goals (first | assumption | wp_step))
    refine codeAny_mono (codeAny_call_builtin (R := wants (fun r s2 => r = .none ∧ ∃ h' tk, s2 = { s with heap := h', toks := tk } ∧ TxR P w h' s.heap.objs.size (allL ts) ∧ (∀ b o, s.heap.get? b = some o → h'.get? b = some o)) E)
      PySem.F.called_set.init.plain PySem.F.entry_set_init (check_set_init_1 hT ?_)) fun r2 s2 hr2 => ?_
    · obtain ⟨ol, hol, hcl, nl, hdl⟩ := id hl
      obtain ⟨ocls, odict, odata, oslots⟩ := ol
      simp only at hcl hdl
      subst hcl
      subst hdl
      have hol2 : hS.get? l = some { cls := .type "tuple", dict := odict, data := .seq items nl, slots := oslots } := keep _ _ hol
      have hsls := PySem.F.sub_tuple_set
      have hslf := PySem.F.sub_tuple_frozenset
      have hne : (Value.type "tuple" == Value.type "dict") = false := by decide
      have hl2 : hS.IsTuple l items := ⟨_, hol2, rfl, nl, rfl⟩
      obtain ⟨D0, e0, F0, _⟩ := id new
      have hS0 : hS.get? s.heap.objs.size = some { cls := .type "set", dict := none, data := .set #[] 0 (.fresh 0 0 (!w.params.followText "set-order")) } := by rw [← hz]; exact Heap.get?_push_size _ rfl
      unfold Builtin.«set.__init__» noKeywords Builtin.Frozenset.updateFrom
      generalize hPI : pyIter = PI
      wp_walk
      subst hPI
      refine wpAny_pyIter_tuple hl2 (wpAny_bind (wpAny_runValue ?_))
      have low : l < s.heap.objs.size := Heap.lt_size hol
      have nI : l ≠ hS.objs.size := by rw [size]; exact Nat.ne_of_lt (Nat.lt_succ_of_lt low)
      have nf : s.heap.objs.size ∉ [hS.objs.size, l] := by
        rw [size]
        simp only [List.mem_cons, List.not_mem_nil, or_false, not_or]
        exact ⟨Nat.ne_of_lt (Nat.lt_succ_self _), Nat.ne_of_gt low⟩
      have lt : items.size = ts.length := by rw [← Array.length_toList]; exact hi.length
      have walk := (Walks.tuple (prog := P) (w := w) (A := A.in1.in1.in1) (by simp [hh]) hS.objs.size l nI items).toS
      rw [lt] at walk
      refine loopT walk s.heap.objs.size nf (fun i v hv => ?_) hb (ts.length - 0) 0 _ rfl (Nat.zero_le _) ⟨⟨_, Heap.get?_push_size _ rfl, rfl, rfl⟩, hl2.push _⟩ (new.at fun o e => Heap.get?_push_of_some _ e) fun s3 hm R3 => ?_
      · have hv' : items.toList[i]? = some v := by rw [Array.getElem?_toList]; exact hv
        exact strs_get hi hv'
      · obtain ⟨h3, g3, d3, tk3, os3⟩ := s3
        have eg : g3 = s.gens := hm.gens
        have ed : d3 = s.drawn := hm.drawn
        have eo : os3 = s.os := hm.os
        subst eg
        subst ed
        subst eo
        show wpAny _ _ _ _ _ _
        refine wpAny_pure ?_
        show wpAny _ _ (ret Value.none) _ _ _
        refine wpAny_pure ⟨rfl, h3, tk3, rfl, R3, fun b o e => ?_⟩
        have lb : b < s.heap.objs.size := Heap.lt_size e
        refine hm.heap b o ?_ (Heap.get?_push_of_some _ (keep b o e))
        simp only [List.mem_cons, List.not_mem_nil, or_false, not_or]
        rw [size]
        exact ⟨Nat.ne_of_lt lb, Nat.ne_of_lt (Nat.lt_succ_of_lt lb)⟩
    · match r2, hr2 with
      | .error e, hr2 => exact hr2
      | .ok .next, hr2 => exact hr2.elim
      | .ok .brk, hr2 => exact hr2.elim
      | .ok .cont, hr2 => exact hr2.elim
      | .ok (.ret r), hr2 =>
        obtain ⟨rfl, h', tk, rfl, R3, k3⟩ := hr2
        repeat (any_goals (first | assumption | wp_step))
        exact h _ _ R3 k3
end
section
variable {X : Cx}
def rSetOfT (K : PySem.W.Frag) (P : Program) (w : World) : List V → Hp → VK → Prop := fun xs H Q => ∃ (a : Addr) (ts : List Str), xs = [.ref a] ∧ SqT K H a (ts.map V.str) ∧ ts.length + 1 < scanBound ∧ ∀ p, H p = none → Q (.ref p) (upd H p (SetT P w p (allL ts)))
theorem cr_setOfT (hc : X.calm = true) : CallR X (.type "set") (rSetOfT X.K X.prog X.w) := by
  intro pins s σ H xs us Q I r h
  obtain ⟨a, ts, rfl, hs, hb, q⟩ := h
  obtain ⟨u, rfl, ru⟩ := vals1 r
  cases ru
  obtain ⟨its, rv, hl, _⟩ := I.tuple hs
  refine set_of_tup (I.ok.hd hc) hl (by simpa using rv.strs) hb fun h' tk R k => ?_
  exact ⟨.ref _, upd H s.heap.objs.size (SetT X.prog X.w s.heap.objs.size (allL ts)), I.laid (t' := tk) k (Nat.le_refl _) (setT_new R), rfl, q _ (I.hok.fresh (Nat.le_refl _))⟩
end
end L2.Fu
/-! ## xs.extend(a tuple) -/
namespace L2.Fu
open PySem PySem.Spec PyProof.Rows
theorem meets_extT (l : Addr) (items : Array Value) (n : Nat) (b : Addr) (dd : Option Addr) (items2 : Array Value) (n2 : Nat) (sl : Array (Option Value)) (c0 : ¬(!items.isEmpty && Builtin.List.listTooLong (items.size + items2.size)) = true) (c1 : items.size ≤ sizeLine) (c2 : items.size + items2.size ≤ sizeLine + 1) :
    Meets (Builtin.«list.extend» ⟨[.ref l, .ref b], []⟩) (fun _ R s => s.heap.get? l = some { cls := .type "list", dict := none, data := .seq items n, slots := #[] } ∧ s.heap.get? b = some ⟨.type "tuple", dd, .seq items2 n2, sl⟩ ∧
      R (.ok (.ret Value.none)) { s with heap := s.heap.update l (Obj.mapSeq fun x => x ++ items2), toks := s.toks }) :=
  .of_wp fun prog w A R s h => by
    obtain ⟨hp, g, d, tk, os⟩ := s
    obtain ⟨hl, hb, h⟩ := h
    have f2 := sub_tuple_tuple
    have f3 := sub_list_list
    have f4 := sub_tuple_list
    have f5 := sub_list_tuple
    have big : (items ++ items2).size ≤ sizeLine + 1 := by rw [Array.size_append]; exact c2
    wp_walk using (wpAny_updateSeq hl rfl (hz := c1) (_hz' := big)), wpAny_loadPart' hl, wpAny_loadPart' hb
    exact ⟨_, rfl, h⟩
def rExtT (K : PySem.W.Frag) : V → List V → Hp → VK → Prop := fun x vs H Q => ∃ (l b : Addr) (xs zs : List V), x = .ref l ∧ vs = [.ref b] ∧ H l = some (.lst xs) ∧ SqT K H b zs ∧ xs.length + zs.length ≤ sizeLine ∧ Q .non (upd H l (.lst (xs ++ zs)))
theorem mt_extT {X : Cx} : MtM X "list.extend" (rExtT X.K) := by
  intro pins s σ H x vs v us Q I rx rv h
  obtain ⟨l, b, xs, zs, rfl, rfl, hH, hB, hz, q⟩ := h
  cases rx
  obtain ⟨u, rfl, ru⟩ := vals1 rv
  cases ru
  obtain ⟨z, its, n, r, el, e⟩ := I.lstM hH
  obtain ⟨its2, r2, ⟨o, e2, oc, n2, od⟩, z2⟩ := I.tuple hB
  obtain ⟨c, dd, dt, sl⟩ := o
  dsimp only at oc od
  subst oc od
  have l2 := r2.length
  have few : its.toArray.size + its2.toArray.size ≤ sizeLine := by rw [List.size_toArray, List.size_toArray]; omega
  have nl : ¬ (!its.toArray.isEmpty && Builtin.List.listTooLong (its.toArray.size + its2.toArray.size)) = true := by
    rw [notLongL few, Bool.and_false]
    exact Bool.false_ne_true
  refine call_meets F.slot_list_extend ⟨_, e, rfl⟩ F.entry_list_extend (F.args_list_extend_2 _ _) (meets_extT l its.toArray n b dd its2.toArray n2 sl nl (by rw [List.size_toArray]; omega) (by omega)) ⟨e, e2, ?_⟩
  refine ⟨.non, _, I.lset (its' := its ++ its2) hH e (by simp) (r.append r2) ?_, rfl, q⟩
  rw [List.length_append]
  exact hz
end L2.Fu

set_option Elab.async false
set_option linter.all false
set_option maxRecDepth 100000
set_option maxHeartbeats 4000000
/-! ## Pure states: what a def's names hold, without addresses -/
namespace L2.Pu
open PySem PySem.Spec PyProof.Rows
/-- either, by a truth value -/
def yn (b : Bool) (t u : Prop) : Prop := match b with
  | true => t
  | false => u
def keyD : Key → PyData
  | .inl i => .int i
  | .inr x => .str x
/-- the hash of a tuple of texts -/
def tHash (w : World) (r : List Str) : Int := reduceHash (Builtin.Tuple.tupleHashOf ((r.map (Sum.inr : Str → Key)).map (keyH w)))
/-- o is the object of a dict whose keys are tuples of texts: each key, its tuple, its value -/
structure DT (w : World) (a : Addr) (o : Obj) (zs : List (List Str × Addr × V)) : Prop where
  sys : (a == sysModules) = false
  few : zs.length ≤ sizeLine
  ex : o.ExactDict
  ents : ∃ (es : Array DictEntry) (ep : Nat) (xs : List (List Str × Addr × Value)), o.data = .dict es ep ∧ Paired (fun (z : List Str × Addr × V) (x : List Str × Addr × Value) => x.1 = z.1 ∧ x.2.1 = z.2.1 ∧ RelV z.2.2 x.2.2) zs xs ∧ es.toList = xs.map fun x => (⟨tHash w x.1, .ref x.2.1, x.2.2⟩ : DictEntry)
  nd : (zs.map (·.1)).Nodup
def KeyAt (C : Hp) (z : List Str × Addr × V) : Prop := ∃ ob : Obj, C z.2.1 = some (.frz ob (.tup (z.1.map V.str))) ∧ ob.dict = none
mutual
/-- v is the data d, of which every list, tuple and dict stands in C (dicts locked for good) -/
inductive Da (w : World) (C : Hp) : V → PyData → Prop
  | non : Da w C .non .none
  | bl (b : Bool) : Da w C (.bl b) (.bool b)
  | int (i : Int) : Da w C (.int i) (.int i)
  | str (x : Str) : Da w C (.str x) (.str x)
  | lst {a : Addr} {xs : List V} {ds : List PyData} : C a = some (.lst xs) → True → DaAll w C xs ds → Da w C (.ref a) (.list ds)
  | tup {a : Addr} {o : Obj} {xs : List V} {ds : List PyData} : C a = some (.frz o (.tup xs)) → o.dict = none → DaAll w C xs ds → Da w C (.ref a) (.tuple ds)
  | dic {a : Addr} {o : Obj} {kvs : List (Key × V)} {es : List (Key × PyData)} : C a = some (.frz o (.dK kvs)) → kvs.map (·.1) = es.map (·.1) → DaAll w C (kvs.map (·.2)) (es.map (·.2)) → Da w C (.ref a) (.dict (es.map fun e => (keyD e.1, e.2)))
  | dicT {a : Addr} {o : Obj} {u : HO} {zs : List (List Str × Addr × V)} {rds : List (List Str × PyData)} : C a = some (.frz o u) → DT w a o zs → (∀ z ∈ zs, KeyAt C z) → zs.map (·.1) = rds.map (·.1) → rds ≠ [] → DaAll w C (zs.map (·.2.2)) (rds.map (·.2)) → Da w C (.ref a) (.dict (rds.map fun e => (.tuple (e.1.map PyData.str), e.2)))
inductive DaAll (w : World) (C : Hp) : List V → List PyData → Prop
  | nil : DaAll w C [] []
  | cons {v : V} {vs : List V} {d : PyData} {ds : List PyData} : Da w C v d → DaAll w C vs ds → DaAll w C (v :: vs) (d :: ds)
end
theorem Da.mono {C C' : Hp} (s : Same C C') {v : V} {d : PyData} (h : Da w C v d) : Da w C' v d :=
  Da.rec (motive_1 := fun v d _ => Da w C' v d) (motive_2 := fun vs ds _ => DaAll w C' vs ds) .non .bl .int .str (fun e n _ q => .lst (s _ _ e) n q) (fun e n _ q => .tup (s _ _ e) n q) (fun e k _ q => .dic (s _ _ e) k q) (fun e t ks k ne _ q => .dicT (s _ _ e) t (fun z hz => let ⟨ob, h1, h2⟩ := ks z hz; ⟨ob, s _ _ h1, h2⟩) k ne q) .nil (fun _ _ a b => .cons a b) h
theorem DaAll.mono {C C' : Hp} (s : Same C C') {vs : List V} {ds : List PyData} (h : DaAll w C vs ds) : DaAll w C' vs ds := by
  induction h using DaAll.rec (motive_1 := fun v d _ => True) with
  | nil => exact .nil
  | cons a _ _ b => exact .cons (a.mono s) b
  | _ => trivial
theorem DaAll.length {C : Hp} : ∀ {vs : List V} {ds : List PyData}, DaAll w C vs ds → vs.length = ds.length
  | _, _, .nil => rfl
  | _, _, .cons _ t => by rw [List.length_cons, List.length_cons, DaAll.length t]
theorem DaAll.get {H : Hp} : ∀ {vs : List V} {ds : List PyData} {i : Nat} {v : V}, DaAll w H vs ds → vs[i]? = some v → ∃ d, ds[i]? = some d ∧ Da w H v d
  | _, _, _, _, .nil, e => by simp at e
  | _, _, 0, _, .cons a t, e => by simp at e; subst e; exact ⟨_, rfl, a⟩
  | _, _, i + 1, v, .cons a t, e => by
    obtain ⟨f, h1, h2⟩ := DaAll.get (i := i) (v := v) t (by simpa using e)
    exact ⟨f, by simpa using h1, h2⟩
theorem DaAll.put {H : Hp} : ∀ {vs : List V} {ds : List PyData} {i : Nat} {d : PyData}, DaAll w H vs ds → ds[i]? = some d → ∃ v, vs[i]? = some v ∧ Da w H v d
  | _, _, _, _, .nil, e => by simp at e
  | _, _, 0, _, .cons a t, e => by simp at e; subst e; exact ⟨_, rfl, a⟩
  | _, _, i + 1, d, .cons a t, e => by
    obtain ⟨f, h1, h2⟩ := DaAll.put (i := i) (d := d) t (by simpa using e)
    exact ⟨f, by simpa using h1, h2⟩
theorem DaAll.append {H : Hp} : ∀ {vs us : List V} {ds es : List PyData}, DaAll w H vs ds → DaAll w H us es → DaAll w H (vs ++ us) (ds ++ es)
  | _, _, _, _, .nil, s => s
  | _, _, _, _, .cons a t, s => .cons a (DaAll.append t s)
theorem DaAll.snoc {H : Hp} {vs : List V} {ds : List PyData} {v : V} {d : PyData} (a : DaAll w H vs ds) (b : Da w H v d) : DaAll w H (vs ++ [v]) (ds ++ [d]) := a.append (.cons b .nil)
theorem DaAll.take {H : Hp} : ∀ {vs : List V} {ds : List PyData} (n : Nat), DaAll w H vs ds → DaAll w H (vs.take n) (ds.take n)
  | _, _, 0, _ => by rw [List.take_zero, List.take_zero]; exact .nil
  | _, _, _ + 1, .nil => .nil
  | _, _, n + 1, .cons a t => .cons a (DaAll.take n t)
theorem DaAll.drop {H : Hp} : ∀ {vs : List V} {ds : List PyData} (n : Nat), DaAll w H vs ds → DaAll w H (vs.drop n) (ds.drop n)
  | _, _, 0, h => h
  | _, _, _ + 1, .nil => .nil
  | _, _, n + 1, .cons _ t => DaAll.drop n t
theorem DaAll.reverse {H : Hp} : ∀ {vs : List V} {ds : List PyData}, DaAll w H vs ds → DaAll w H vs.reverse ds.reverse
  | _, _, .nil => .nil
  | _, _, .cons a t => by rw [List.reverse_cons, List.reverse_cons]; exact (DaAll.reverse t).snoc a
theorem DaAll.set {H : Hp} : ∀ {vs : List V} {ds : List PyData} {v : V} {d : PyData} (n : Nat), DaAll w H vs ds → Da w H v d → DaAll w H (vs.set n v) (ds.set n d)
  | _, _, _, _, _, .nil, _ => .nil
  | _, _, _, _, 0, .cons _ t, b => .cons b t
  | _, _, _, _, n + 1, .cons a t, b => .cons a (DaAll.set n t b)

abbrev Zs := List (List Str × Addr × V)
/-- such a dict while it is made -/
def mkZ (w : World) (a : Addr) (zs : Zs) : HO := .ext fun h => ∃ o, h.get? a = some o ∧ DT w a o zs
/-- the same with keys that are tuples of texts and whole numbers -/
abbrev Zp := List (List Key × Addr × V)
def kHash (w : World) (r : List Key) : Int := reduceHash (Builtin.Tuple.tupleHashOf (r.map (keyH w)))
structure DP (w : World) (a : Addr) (o : Obj) (zs : Zp) : Prop where
  sys : (a == sysModules) = false
  few : zs.length ≤ sizeLine
  ex : o.ExactDict
  ents : ∃ (es : Array DictEntry) (ep : Nat) (xs : List (List Key × Addr × Value)), o.data = .dict es ep ∧ Paired (fun (z : List Key × Addr × V) (x : List Key × Addr × Value) => x.1 = z.1 ∧ x.2.1 = z.2.1 ∧ RelV z.2.2 x.2.2) zs xs ∧ es.toList = xs.map fun x => (⟨kHash w x.1, .ref x.2.1, x.2.2⟩ : DictEntry)
  nd : (zs.map (·.1)).Nodup
def KeyAtP (C : Hp) (z : List Key × Addr × V) : Prop := ∃ ob : Obj, C z.2.1 = some (.frz ob (.tup (z.1.map kV))) ∧ ob.dict = none
def mkP (w : World) (a : Addr) (zs : Zp) : HO := .ext fun h => ∃ o, h.get? a = some o ∧ DP w a o zs
/-- a thing that changes: what it holds -/
inductive Own where
  | lst (ds : List PyData)
  | dic (es : List (Key × PyData))
  | set (xs : List Str)
  | hand (b : Nat)
  | dct (rds : List (List Str × PyData))
  | obj (c : Addr) (fs : List (Str × PyData))
  | dcp (rds : List (List Key × PyData))
  | bld (c : Addr) (fs : List (Str × PyData)) (g : Str) (q : Addr)
  | lsa (q : Addr) (ls : List PyData)
  | dcq (rds : List (List Key × Addr))
  | lsr (qs : List Addr)
/-- what a name holds: nothing that is known, data, a thing that changes (r: it came as an argument), the script -/
inductive Slot where
  | un
  | val (d : PyData)
  | own (r : Bool) (o : Own)
  | scr (ns : List Int)
  | exc (c : Addr) (d : PyData)
  | fnc (f c : Addr) (q : Str) (σ : List (Option V)) (vs : List (Option PyData))
abbrev Ro := List Slot
/-- the program, the world, the written part -/
structure PK where
  P : Program
  w : World
  K : PySem.W.Frag
  tb : List (Addr × Str)
  base : Heap
/-- tables of code objects that are known, with the name of their lambdas -/
abbrev Tb := List (Addr × Str)
abbrev _root_.L2.Cx.pk (X : Cx) (τ : Tb) : PK := ⟨X.prog, X.w, X.K, τ, X.base⟩
def OwnAt (T : PK) (C H : Hp) (p : Addr) : Own → Prop
  | .lst ds => ∃ vs, H p = some (.lst vs) ∧ DaAll T.w C vs ds
  | .dic es => ∃ kvs : List (Key × V), H p = some (.dK kvs) ∧ kvs.map (·.1) = es.map (·.1) ∧ DaAll T.w C (kvs.map (·.2)) (es.map (·.2))
  | .set xs => H p = some (Fu.SetT T.P T.w p xs)
  | .hand b => ∃ g a c : Int, H p = some (.lst [.int g, .int a, .int c]) ∧ 0 ≤ a ∧ a < 2147483647 ∧ 0 ≤ c ∧ c + (b : Int) ≤ 900000000
  | .dct rds => ∃ zs : Zs, H p = some (mkZ T.w p zs) ∧ (∀ z ∈ zs, KeyAt C z) ∧ zs.map (·.1) = rds.map (·.1) ∧ DaAll T.w C (zs.map (·.2.2)) (rds.map (·.2))
  | .obj c fs => ∃ (dx : Addr) (vs : List (Str × V)), H p = some (.ins c dx vs) ∧ vs.map (·.1) = fs.map (·.1) ∧ DaAll T.w C (vs.map (·.2)) (fs.map (·.2))
  | .dcp rds => ∃ zs : Zp, H p = some (mkP T.w p zs) ∧ (∀ z ∈ zs, KeyAtP C z) ∧ zs.map (·.1) = rds.map (·.1) ∧ DaAll T.w C (zs.map (·.2.2)) (rds.map (·.2))
  | .bld c fs g q => ∃ (dx : Addr) (vs : List (Str × V)), H p = some (.ins c dx (vs ++ [(g, .ref q)])) ∧ vs.map (·.1) = fs.map (·.1) ∧ DaAll T.w C (vs.map (·.2)) (fs.map (·.2)) ∧ fs.lookup g = none
  | .lsa q ls => p = q ∧ ∃ vs, H p = some (.lst vs) ∧ DaAll T.w C vs ls
  | .dcq rds => ∃ zs : Zp, H p = some (mkP T.w p zs) ∧ (∀ z ∈ zs, KeyAtP C z) ∧ zs.map (fun z => (z.1, z.2.2)) = rds.map fun r => (r.1, V.ref r.2)
  | .lsr qs => H p = some (.lst (qs.map V.ref))
theorem OwnAt.mono {T : PK} {C C' H H' : Hp} {p : Addr} {o : Own} (h : OwnAt T C H p o) (s : Same C C') (e : H' p = H p) : OwnAt T C' H' p o := by
  cases o with
  | lst ds => obtain ⟨vs, a, b⟩ := h; exact ⟨vs, e.trans a, b.mono s⟩
  | dic es => obtain ⟨vs, a, k, b⟩ := h; exact ⟨vs, e.trans a, k, b.mono s⟩
  | set xs => exact e.trans h
  | hand b => obtain ⟨g, a, c, a1, r⟩ := h; exact ⟨g, a, c, e.trans a1, r⟩
  | dct rds => obtain ⟨zs, a, k, n, b⟩ := h; exact ⟨zs, e.trans a, fun z hz => let ⟨ob, h1, h2⟩ := k z hz; ⟨ob, s _ _ h1, h2⟩, n, b.mono s⟩
  | obj c fs => obtain ⟨dx, vs, a, n, b⟩ := h; exact ⟨dx, vs, e.trans a, n, b.mono s⟩
  | dcp rds => obtain ⟨zs, a, k, n, b⟩ := h; exact ⟨zs, e.trans a, fun z hz => let ⟨ob, h1, h2⟩ := k z hz; ⟨ob, s _ _ h1, h2⟩, n, b.mono s⟩
  | bld c fs g q => obtain ⟨dx, vs, a, n, b, l⟩ := h; exact ⟨dx, vs, e.trans a, n, b.mono s, l⟩
  | lsa q ls => obtain ⟨x, vs, a, b⟩ := h; exact ⟨x, vs, e.trans a, b.mono s⟩
  | dcq rds => obtain ⟨zs, a, k, n⟩ := h; exact ⟨zs, e.trans a, fun z hz => let ⟨ob, h1, h2⟩ := k z hz; ⟨ob, s _ _ h1, h2⟩, n⟩
  | lsr qs => exact e.trans h
theorem OwnAt.ex {T : PK} {C H : Hp} {p : Addr} {o : Own} (h : OwnAt T C H p o) : ∃ u, H p = some u := by
  cases o with
  | lst ds => obtain ⟨vs, a, b⟩ := h; exact ⟨_, a⟩
  | dic es => obtain ⟨vs, a, k, b⟩ := h; exact ⟨_, a⟩
  | set xs => exact ⟨_, h⟩
  | hand b => obtain ⟨g, a, c, a1, r⟩ := h; exact ⟨_, a1⟩
  | dct rds => obtain ⟨zs, a, _⟩ := h; exact ⟨_, a⟩
  | obj c fs => obtain ⟨dx, vs, a, _⟩ := h; exact ⟨_, a⟩
  | dcp rds => obtain ⟨zs, a, _⟩ := h; exact ⟨_, a⟩
  | bld c fs g q => obtain ⟨dx, vs, a, _⟩ := h; exact ⟨_, a⟩
  | lsa q ls => obtain ⟨x, vs, a, _⟩ := h; exact ⟨_, a⟩
  | dcq rds => obtain ⟨zs, a, _⟩ := h; exact ⟨_, a⟩
  | lsr qs => exact ⟨_, h⟩
theorem set_nocode {P : Program} {w : World} {p : Addr} {xs : List Str} {q : Str} : Fu.SetT P w p xs ≠ LamX.CodeO p q := fun e => by
  have e1 := HO.ext.inj e
  let o : Obj := { cls := .none, data := .fields #[.none, .str q 0] }
  let h : Heap := (⟨Array.replicate p o, {}⟩ : Heap).push o
  have hg : h.get? p = some o := by
    have := Heap.get?_push_size (⟨Array.replicate p o, {}⟩ : Heap) (o := o) rfl
    simpa [Array.size_replicate] using this
  have : Fu.TxR P w h p xs := by
    have z := congrFun e1 h
    rw [z]
    exact ⟨o, _, 0, hg, rfl, rfl⟩
  obtain ⟨D, hd, _⟩ := this
  rw [hg] at hd
  have := congrArg Obj.data (Option.some.inj hd)
  cases this
theorem mkZ_nocode {w : World} {p : Addr} {L : Zs} {q : Str} : mkZ w p L ≠ LamX.CodeO p q := fun e => by
  have e1 := HO.ext.inj e
  let o : Obj := { cls := .none, data := .fields #[.none, .str q 0] }
  let h : Heap := (⟨Array.replicate p o, {}⟩ : Heap).push o
  have hg : h.get? p = some o := by
    have := Heap.get?_push_size (⟨Array.replicate p o, {}⟩ : Heap) (o := o) rfl
    simpa [Array.size_replicate] using this
  have : ∃ o, h.get? p = some o ∧ DT w p o L := by
    have z := congrFun e1 h
    rw [z]
    exact ⟨o, _, 0, hg, rfl, rfl⟩
  obtain ⟨o2, hd, t⟩ := this
  rw [hg] at hd
  have e2 := Option.some.inj hd
  obtain ⟨es, ep, xs, hdt, _⟩ := t.ents
  rw [← e2] at hdt
  cases hdt
theorem mkP_nocode {w : World} {p : Addr} {L : Zp} {q : Str} : mkP w p L ≠ LamX.CodeO p q := fun e => by
  have e1 := HO.ext.inj e
  let o : Obj := { cls := .none, data := .fields #[.none, .str q 0] }
  let h : Heap := (⟨Array.replicate p o, {}⟩ : Heap).push o
  have hg : h.get? p = some o := by
    have := Heap.get?_push_size (⟨Array.replicate p o, {}⟩ : Heap) (o := o) rfl
    simpa [Array.size_replicate] using this
  have : ∃ o, h.get? p = some o ∧ DP w p o L := by
    have z := congrFun e1 h
    rw [z]
    exact ⟨o, _, 0, hg, rfl, rfl⟩
  obtain ⟨o2, hd, t⟩ := this
  rw [hg] at hd
  have e2 := Option.some.inj hd
  obtain ⟨es, ep, xs, hdt, _⟩ := t.ents
  rw [← e2] at hdt
  cases hdt
theorem OwnAt.notab {T : PK} {C H : Hp} {p : Addr} {o : Own} (h : OwnAt T C H p o) : (∀ ps, H p ≠ some (.tbl ps)) ∧ ∀ q, H p ≠ some (LamX.CodeO p q) := by
  have one : ∀ {u : HO}, H p = some u → (∀ ps, u ≠ .tbl ps) → (∀ q, u ≠ LamX.CodeO p q) → (∀ ps, H p ≠ some (.tbl ps)) ∧ ∀ q, H p ≠ some (LamX.CodeO p q) := fun {u} e a b =>
    ⟨fun ps z => a ps (Option.some.inj (e.symm.trans z)), fun q z => b q (Option.some.inj (e.symm.trans z))⟩
  cases o with
  | lst ds => obtain ⟨vs, a, b⟩ := h; exact one a (fun _ z => nomatch z) fun _ z => nomatch z
  | dic es => obtain ⟨vs, a, k, b⟩ := h; exact one a (fun _ z => nomatch z) fun _ z => nomatch z
  | set xs => exact one h (fun _ z => nomatch z) fun _ => set_nocode
  | hand b => obtain ⟨g, a, c, a1, r⟩ := h; exact one a1 (fun _ z => nomatch z) fun _ z => nomatch z
  | dct rds => obtain ⟨zs, a, _⟩ := h; exact one a (fun _ z => nomatch z) fun _ => mkZ_nocode
  | obj c fs => obtain ⟨dx, vs, a, _⟩ := h; exact one a (fun _ z => nomatch z) fun _ z => nomatch z
  | dcp rds => obtain ⟨zs, a, _⟩ := h; exact one a (fun _ z => nomatch z) fun _ => mkP_nocode
  | bld c fs g q => obtain ⟨dx, vs, a, _⟩ := h; exact one a (fun _ z => nomatch z) fun _ z => nomatch z
  | lsa q ls => obtain ⟨x, vs, a, _⟩ := h; exact one a (fun _ z => nomatch z) fun _ z => nomatch z
  | dcq rds => obtain ⟨zs, a, _⟩ := h; exact one a (fun _ z => nomatch z) fun _ => mkP_nocode
  | lsr qs => exact one h (fun _ z => nomatch z) fun _ z => nomatch z
/-- at a stands an exception of the class at c, its dict at dx -/
def Xo (c dx a : Addr) : HO := .ext fun h => ∃ (oe : Obj) (vs : Array Value), h.get? a = some oe ∧ Zc (.ref c) (some dx) oe ∧ oe.data = .fields vs
/-- a frame: the data and the heap at the start, the things that came as arguments, by slot -/
structure Fm where
  C0 : Hp
  H0 : Hp
  refs : List (Nat × Addr)
def SlotAt (T : PK) (F : Fm) (C H : Hp) (i : Nat) (v : Option (Option V)) : Slot → Prop
  | .un => True
  | .val d => ∃ x, v = some (some x) ∧ Da T.w C x d
  | .own r o => ∃ p, v = some (some (.ref p)) ∧ C p = none ∧ OwnAt T C H p o ∧ (if r = true then (i, p) ∈ F.refs else F.H0 p = none)
  | .scr ns => ∃ a, v = some (some (.ref a)) ∧ SqL T.K C a (ns.map V.int)
  | .exc c d => ∃ a dx x, v = some (some (.ref a)) ∧ C a = some (Xo c dx a) ∧ C dx = some (.xd [("value", x)]) ∧ Da T.w C x d
  | .fnc f c q σc vs => v = some (some (.ref f)) ∧ C c = some (LamX.CodeO c q) ∧ σc.length = vs.length ∧ ∀ (i : Nat) (d : PyData), vs[i]? = some (some d) → ∃ x, σc[i]? = some (some x) ∧ Da T.w C x d
/-- o is no table -/
def NoTb (o : HO) : Prop := ∀ ps, o ≠ .tbl ps
/-- (kept for the shape of Rep) -/
def SysOk (_T : PK) (_C : Hp) : Prop := True
theorem SysOk.mono {T : PK} {C C' : Hp} (_h : SysOk T C) (_s : Same C C') : SysOk T C' := trivial
structure Rep (T : PK) (F : Fm) (ρ : Ro) (C : Hp) (σ : St) (H : Hp) : Prop where
  c0 : Same F.C0 C
  sub : Same C H
  keep : ∀ b o, F.H0 b = some o → NoTb o → (∀ q ∈ F.refs, q.2 ≠ b) → H b = some o
  tbl : ∀ b ps, F.H0 b = some (.tbl ps) → ∃ q, (b, q) ∈ T.tb
  htb : ∀ b ps, H b = some (.tbl ps) → ∃ q, (b, q) ∈ T.tb
  ctab : ∀ b o, C b = some o → NoTb o
  tabs : LamX.Tabs T.tb H
  new : ∀ b o, C b = some o → F.C0 b = none → F.H0 b = none ∨ ∃ xs, o = .tup xs
  refd : ∀ q ∈ F.refs, ∃ o, H q.2 = some o
  sys : SysOk T C
  len : ρ.length = σ.length
  slot : ∀ i s, ρ[i]? = some s → SlotAt T F C H i σ[i]? s
  apart : ∀ (i j : Nat) (p : Addr) (r r' : Bool) (o o' : Own), i ≠ j → ρ[i]? = some (.own r o) → ρ[j]? = some (.own r' o') → σ[i]? = some (some (.ref p)) → σ[j]? = some (some (.ref p)) → False
theorem same_refl (H : Hp) : Same H H := fun _ _ k => k
theorem same_trans {A B C : Hp} (a : Same A B) (b : Same B C) : Same A C := fun x o k => b x o (a x o k)
theorem same_new {H : Hp} {q : Addr} {o : HO} (f : H q = none) : Same H (upd H q o) := fun b u k => by
  rw [upd_ne (ne_of_none k f)]
  exact k
theorem same_upd {C H : Hp} {q : Addr} {o : HO} (s : Same C H) : Same (upd C q o) (upd H q o) := fun b u k => by
  by_cases hb : b = q
  · subst hb; rw [upd_same] at k ⊢; exact k
  · rw [upd_ne hb] at k ⊢; exact s b u k
theorem same_off {C H : Hp} {q : Addr} {o : HO} (s : Same C H) (f : C q = none) : Same C (upd H q o) := fun b u k => by
  rw [upd_ne (ne_of_none k f)]; exact s b u k
theorem same_in {C H : Hp} {q : Addr} {o : HO} (s : Same C H) (e : H q = some o) : Same (upd C q o) H := fun b u k => by
  by_cases hb : b = q
  · subst hb; rw [upd_same] at k; rw [e]; exact k
  · rw [upd_ne hb] at k; exact s b u k
theorem sub_none {C H : Hp} {p : Addr} (s : Same C H) (h : H p = none) : C p = none := by
  cases q : C p with
  | none => rfl
  | some o => rw [s _ _ q] at h; cases h
theorem tabs_new {τ : Tb} {H : Hp} {p : Addr} {o : HO} (t : LamX.Tabs τ H) (h : H p = none) : LamX.Tabs τ (upd H p o) := t.ext fun b u k => same_new h b u k
theorem tabs_upd {τ : Tb} {H : Hp} {p : Addr} {u : HO} (t : LamX.Tabs τ H) (n : (∀ ps, H p ≠ some (.tbl ps)) ∧ ∀ q, H p ≠ some (LamX.CodeO p q)) : LamX.Tabs τ (upd H p u) := fun x hx => by
  obtain ⟨ps, a, b, c⟩ := t x hx
  refine ⟨ps, by rw [upd_ne (fun e => n.1 ps (by rw [← e]; exact a))]; exact a, b, fun pos cv hc => ?_⟩
  obtain ⟨d, e1, e2⟩ := c pos cv hc
  refine ⟨d, e1, ?_⟩
  have ne : d ≠ p := by
    rintro rfl
    exact n.2 _ e2
  rw [upd_ne ne]; exact e2
section
variable {T : PK} {F : Fm} {ρ : Ro} {C : Hp} {σ : St} {H : Hp} {i : Nat} {p : Addr}
theorem Rep.fresh (R : Rep T F ρ C σ H) (h : H p = none) : F.H0 p = none := by
  cases q : F.H0 p with
  | none => rfl
  | some o =>
    by_cases ht : ∃ ps, o = .tbl ps
    · obtain ⟨ps, rfl⟩ := ht
      obtain ⟨q', m⟩ := R.tbl p ps q
      obtain ⟨ps', e, _⟩ := R.tabs _ m
      rw [h] at e; cases e
    have ht : NoTb o := fun ps e => ht ⟨ps, e⟩
    by_cases hr : ∀ q ∈ F.refs, q.2 ≠ p
    · rw [R.keep p o q ht hr] at h; cases h
    · have : ∃ q ∈ F.refs, q.2 = p := by
        refine Classical.byContradiction fun hn => hr fun q hq e => hn ⟨q, hq, e⟩
      obtain ⟨q, hq, e⟩ := this
      obtain ⟨o, ho⟩ := R.refd q hq
      rw [e, h] at ho; cases ho
theorem Rep.nsys (R : Rep T F ρ C σ H) (h : H p = none) : True := trivial
theorem SqL.mono' {K : PySem.W.Frag} {C C' : Hp} {a : Addr} {xs : List V} (s : Same C C') (h : SqL K C a xs) : SqL K C' a xs := by
  rcases h with (h | ⟨o, h⟩) | h
  · exact .inl (.inl (s _ _ h))
  · exact .inl (.inr ⟨o, s _ _ h⟩)
  · exact .inr h
theorem SlotAt.mono {C' H' : Hp} {v : Option (Option V)} {s : Slot} (h : SlotAt T F C H i v s) (sc : Same C C') (e : ∀ p, v = some (some (.ref p)) → C p = none → H p ≠ none → C' p = none ∧ H' p = H p) : SlotAt T F C' H' i v s := by
  cases s with
  | un => trivial
  | val d => obtain ⟨x, a, b⟩ := h; exact ⟨x, a, b.mono sc⟩
  | own r o =>
    obtain ⟨p, a, b, c, d⟩ := h
    obtain ⟨u, hu⟩ := c.ex
    obtain ⟨e1, e2⟩ := e p a b (by rw [hu]; exact Option.some_ne_none u)
    exact ⟨p, a, e1, c.mono sc e2, d⟩
  | scr ns => obtain ⟨a, b, c⟩ := h; exact ⟨a, b, SqL.mono' sc c⟩
  | exc c d => obtain ⟨a, dx, x, e1, e2, e3, e4⟩ := h; exact ⟨a, dx, x, e1, sc _ _ e2, sc _ _ e3, e4.mono sc⟩
  | fnc f c q σc vs => obtain ⟨e1, e2, e3, e4⟩ := h; exact ⟨e1, sc _ _ e2, e3, fun i d e => let ⟨x, a, b⟩ := e4 i d e; ⟨x, a, b.mono sc⟩⟩
/-- a new thing is laid, and is data -/
theorem Rep.lay (R : Rep T F ρ C σ H) {o : HO} (h : H p = none) (no : NoTb o := by intro _ z; cases z) : Rep T F ρ (upd C p o) σ (upd H p o) := by
  have cp := sub_none R.sub h
  refine ⟨same_trans R.c0 (same_new cp), same_upd R.sub, fun b u k nu hr => ?_, R.tbl, fun b ps k => ?_, fun b u k => ?_, tabs_new R.tabs h, fun b u k k0 => ?_, fun q hq => ?_, ?_, R.len, fun i s hs => ?_, R.apart⟩
  · rw [upd_ne (ne_of_none (R.keep b u k nu hr) h)]; exact R.keep b u k nu hr
  · by_cases hb : b = p
    · subst hb; rw [upd_same] at k; cases k; exact absurd rfl (no ps)
    · rw [upd_ne hb] at k; exact R.htb b ps k
  · by_cases hb : b = p
    · subst hb; rw [upd_same] at k; cases k; exact no
    · rw [upd_ne hb] at k; exact R.ctab b u k
  · by_cases hb : b = p
    · subst hb; exact .inl (R.fresh h)
    · rw [upd_ne hb] at k; exact R.new b u k k0
  · obtain ⟨u, hu⟩ := R.refd q hq
    exact ⟨u, by rw [upd_ne (ne_of_none hu h)]; exact hu⟩
  · exact R.sys.mono (same_new cp)
  · refine (R.slot i s hs).mono (same_new cp) fun q _ hq hn => ?_
    have ne : q ≠ p := fun e => by rw [e] at hn; exact hn h
    rw [upd_ne ne, upd_ne ne]; exact ⟨hq, rfl⟩
/-- a new thing is laid beside the data -/
theorem Rep.layH (R : Rep T F ρ C σ H) {o : HO} (h : H p = none) (no : NoTb o := by intro _ z; cases z) : Rep T F ρ C σ (upd H p o) := by
  have cp := sub_none R.sub h
  refine ⟨R.c0, same_off R.sub cp, fun b u k nu hr => ?_, R.tbl, fun b ps k => ?_, R.ctab, tabs_new R.tabs h, R.new, fun q hq => ?_, R.sys, R.len, fun i s hs => ?_, R.apart⟩
  · rw [upd_ne (ne_of_none (R.keep b u k nu hr) h)]; exact R.keep b u k nu hr
  · by_cases hb : b = p
    · subst hb; rw [upd_same] at k; cases k; exact absurd rfl (no ps)
    · rw [upd_ne hb] at k; exact R.htb b ps k
  · obtain ⟨u, hu⟩ := R.refd q hq
    exact ⟨u, by rw [upd_ne (ne_of_none hu h)]; exact hu⟩
  · refine (R.slot i s hs).mono (same_refl _) fun q _ hq hn => ?_
    have ne : q ≠ p := fun e => by rw [e] at hn; exact hn h
    rw [upd_ne ne]; exact ⟨hq, rfl⟩
theorem getElem?_set' {α : Type} {l : List α} {i j : Nat} {x y : α} (h : (l.set i x)[j]? = some y) : (j = i ∧ y = x ∧ i < l.length) ∨ (j ≠ i ∧ l[j]? = some y) := by
  by_cases e : j = i
  · subst e
    by_cases hl : j < l.length
    · rw [List.getElem?_set_self hl] at h; cases h; exact .inl ⟨rfl, rfl, hl⟩
    · rw [List.getElem?_eq_none (by simpa using hl)] at h; cases h
  · rw [List.getElem?_set_ne (Ne.symm e)] at h; exact .inr ⟨e, h⟩
/-- a name is stored -/
theorem Rep.store (R : Rep T F ρ C σ H) {v : V} {s : Slot} (h : i < ρ.length → SlotAt T F C H i (some (some v)) s) (ap : ∀ (j : Nat) (q : Addr) (r r' : Bool) (o o' : Own), j ≠ i → s = .own r o → ρ[j]? = some (.own r' o') → v = .ref q → σ[j]? = some (some (.ref q)) → False) : Rep T F (ρ.set i s) C (σ.set i (some v)) H := by
  refine ⟨R.c0, R.sub, R.keep, R.tbl, R.htb, R.ctab, R.tabs, R.new, R.refd, R.sys, by rw [List.length_set, List.length_set, R.len], fun j t hj => ?_, fun j k q r r' o o' jk hj hk vj vk => ?_⟩
  · rcases getElem?_set' hj with ⟨rfl, rfl, hl⟩ | ⟨ne, hj⟩
    · rw [List.getElem?_set_self (by rw [← R.len]; exact hl)]; exact h hl
    · rw [List.getElem?_set_ne (Ne.symm ne)]; exact R.slot j t hj
  · rcases getElem?_set' hj with ⟨rfl, e1, _⟩ | ⟨n1, hj⟩
    · rcases getElem?_set' hk with ⟨e, _⟩ | ⟨n2, hk⟩
      · exact jk e.symm
      · rcases getElem?_set' vj with ⟨_, e3, _⟩ | ⟨n3, _⟩
        · rw [List.getElem?_set_ne (Ne.symm n2)] at vk
          exact ap k q r r' o o' n2 e1.symm hk (Option.some.inj e3).symm vk
        · exact n3 rfl
    · rename_i hj'
      rcases getElem?_set' hk with ⟨ek, e1, _⟩ | ⟨n2, hk⟩
      · subst ek
        rcases getElem?_set' vk with ⟨_, e3, _⟩ | ⟨n3, _⟩
        · rw [List.getElem?_set_ne (Ne.symm n1)] at vj
          exact ap j q r' r o' o n1 e1.symm hj (Option.some.inj e3).symm vj
        · exact n3 rfl
      · rw [List.getElem?_set_ne (Ne.symm n1)] at vj
        rw [List.getElem?_set_ne (Ne.symm n2)] at vk
        exact R.apart j k q r r' o o' jk hj hk vj vk
theorem Rep.setVal (R : Rep T F ρ C σ H) {v : V} {d : PyData} (h : Da T.w C v d) : Rep T F (ρ.set i (.val d)) C (σ.set i (some v)) H :=
  R.store (fun _ => ⟨v, rfl, h⟩) fun _ _ _ _ _ _ _ e => nomatch e
/-- a name is forgotten -/
theorem Rep.forget (R : Rep T F ρ C σ H) (x : Option V) : Rep T F (ρ.set i .un) C (σ.set i x) H := by
  refine ⟨R.c0, R.sub, R.keep, R.tbl, R.htb, R.ctab, R.tabs, R.new, R.refd, R.sys, by rw [List.length_set, List.length_set, R.len], fun j t hj => ?_, fun j k q r r' o o' jk hj hk vj vk => ?_⟩
  · rcases getElem?_set' hj with ⟨rfl, rfl, hl⟩ | ⟨ne, hj⟩
    · trivial
    · rw [List.getElem?_set_ne (Ne.symm ne)]; exact R.slot j t hj
  · rcases getElem?_set' hj with ⟨_, e1, _⟩ | ⟨n1, hj⟩
    · cases e1
    · rcases getElem?_set' hk with ⟨_, e1, _⟩ | ⟨n2, hk⟩
      · cases e1
      · rw [List.getElem?_set_ne (Ne.symm n1)] at vj
        rw [List.getElem?_set_ne (Ne.symm n2)] at vk
        exact R.apart j k q r r' o o' jk hj hk vj vk
/-- a new thing of one's own goes to a name -/
theorem Rep.setOwn (R : Rep T F ρ C σ H) {o : Own} (cp : C p = none) (fp : F.H0 p = none) (w : OwnAt T C H p o) (ap : ∀ (j : Nat) (r' : Bool) (o' : Own), j ≠ i → ρ[j]? = some (.own r' o') → σ[j]? = some (some (.ref p)) → False) : Rep T F (ρ.set i (.own false o)) C (σ.set i (some (.ref p))) H :=
  R.store (fun _ => ⟨p, rfl, cp, w, fp⟩) fun j q r r' u u' ne _ hj e hv => by cases e; exact ap j r' u' ne hj hv
/-- an own thing is changed -/
theorem Rep.write (R : Rep T F ρ C σ H) {r : Bool} {o o' : Own} {u : HO} (hi : ρ[i]? = some (.own r o)) (hv : σ[i]? = some (some (.ref p))) (w : OwnAt T C (upd H p u) p o') : Rep T F (ρ.set i (.own r o')) C σ (upd H p u) := by
  obtain ⟨p', e, cp, wo, fr⟩ := R.slot i _ hi
  rw [hv] at e; cases e
  have other : ∀ b v, C b = some v → b ≠ p := fun b v k => ne_of_none k cp
  refine ⟨R.c0, same_off R.sub cp, fun b v k nv hr => ?_, R.tbl, fun b ps k => ?_, R.ctab, tabs_upd R.tabs wo.notab, R.new, fun q hq => ?_, R.sys, by rw [List.length_set, R.len], fun j t hj => ?_, fun j k q r1 r2 o1 o2 jk hj hk vj vk => ?_⟩
  · have ne : b ≠ p := by
      rintro rfl
      cases r with
      | true => exact hr (i, b) fr rfl
      | false => rw [show F.H0 b = none from fr] at k; cases k
    rw [upd_ne ne]; exact R.keep b v k nv hr
  · by_cases hb : b = p
    · subst hb; exact absurd k (w.notab.1 ps)
    · rw [upd_ne hb] at k; exact R.htb b ps k
  · by_cases e : q.2 = p
    · exact ⟨u, by rw [e, upd_same]⟩
    · rw [upd_ne e]; exact R.refd q hq
  · rcases getElem?_set' hj with ⟨rfl, rfl, hl⟩ | ⟨ne, hj⟩
    · exact ⟨p, hv, cp, w, fr⟩
    · have h := R.slot j t hj
      cases t with
      | un => trivial
      | val d => exact h
      | scr ns => exact h
      | exc c d => exact h
      | fnc f c q σc vs => exact h
      | own r1 o1 =>
        obtain ⟨p1, a, b, c, d⟩ := h
        have np : p1 ≠ p := fun e => R.apart j i p r1 r o1 o ne hj hi (by rw [← e]; exact a) hv
        exact ⟨p1, a, b, c.mono (same_refl _) (upd_ne np), d⟩
  · have back : ∀ {j : Nat} {r1 o1}, (ρ.set i (.own r o'))[j]? = some (.own r1 o1) → ∃ r2 o2, ρ[j]? = some (.own r2 o2) := fun {j r1 o1} h => by
      rcases getElem?_set' h with ⟨rfl, _⟩ | ⟨_, h⟩
      · exact ⟨_, _, hi⟩
      · exact ⟨_, _, h⟩
    obtain ⟨_, _, a⟩ := back hj
    obtain ⟨_, _, b⟩ := back hk
    exact R.apart j k q _ _ _ _ jk a b vj vk
/-- an own thing becomes data -/
theorem Rep.freeze (R : Rep T F ρ C σ H) {o : Own} {d : PyData} {u : HO} (hi : ρ[i]? = some (.own false o)) (hv : σ[i]? = some (some (.ref p))) (hu : H p = some u) (hd : Da T.w (upd C p u) (.ref p) d) (no : NoTb u := by intro _ z; cases z) : Rep T F (ρ.set i (.val d)) (upd C p u) σ H ∧ C p = none := by
  obtain ⟨p', e, cp, wo, fr⟩ := R.slot i _ hi
  rw [hv] at e; cases e
  have fr : F.H0 p = none := fr
  refine ⟨⟨same_trans R.c0 (same_new cp), same_in R.sub hu, R.keep, R.tbl, R.htb, fun b v k => ?_, R.tabs, fun b v k k0 => ?_, R.refd, ?_, by rw [List.length_set, R.len], fun j t hj => ?_, fun j k q r1 r2 o1 o2 jk hj hk vj vk => ?_⟩, cp⟩
  · by_cases e : b = p
    · subst e; rw [upd_same] at k; cases k; exact no
    · rw [upd_ne e] at k; exact R.ctab b v k
  · by_cases e : b = p
    · subst e; exact .inl fr
    · rw [upd_ne e] at k; exact R.new b v k k0
  · exact R.sys.mono (same_new cp)
  · rcases getElem?_set' hj with ⟨rfl, rfl, hl⟩ | ⟨ne, hj⟩
    · exact ⟨.ref p, hv, hd⟩
    · have h := R.slot j t hj
      cases t with
      | un => trivial
      | val d => obtain ⟨x, a, b⟩ := h; exact ⟨x, a, b.mono (same_new cp)⟩
      | scr ns => obtain ⟨a, b, c⟩ := h; exact ⟨a, b, SqL.mono' (same_new cp) c⟩
      | exc c d => obtain ⟨a, dx, x, e1, e2, e3, e4⟩ := h; exact ⟨a, dx, x, e1, same_new cp _ _ e2, same_new cp _ _ e3, e4.mono (same_new cp)⟩
      | fnc f c q σc vs => obtain ⟨e1, e2, e3, e4⟩ := h; exact ⟨e1, (same_new cp) _ _ e2, e3, fun i d e => let ⟨x, a, b⟩ := e4 i d e; ⟨x, a, b.mono (same_new cp)⟩⟩
      | own r1 o1 =>
        obtain ⟨p1, a, b, c, d'⟩ := h
        have np : p1 ≠ p := fun e => R.apart j i p r1 false o1 o ne hj hi (by rw [← e]; exact a) hv
        exact ⟨p1, a, by rw [upd_ne np]; exact b, c.mono (same_new cp) rfl, d'⟩
  · have back : ∀ {j : Nat} {r1 o1}, (ρ.set i (.val d))[j]? = some (.own r1 o1) → ρ[j]? = some (.own r1 o1) := fun {j r1 o1} h => by
      rcases getElem?_set' h with ⟨_, e, _⟩ | ⟨_, h⟩
      · cases e
      · exact h
    exact R.apart j k q _ _ _ _ jk (back hj) (back hk) vj vk
theorem OwnAt.notup {T : PK} {C H : Hp} {p : Addr} {o : Own} {xs : List V} (h : OwnAt T C H p o) (e : H p = some (.tup xs)) : False := by
  cases o with
  | lst ds => obtain ⟨vs, a, b⟩ := h; rw [e] at a; cases a
  | dic es => obtain ⟨vs, a, k, b⟩ := h; rw [e] at a; cases a
  | set xs => rw [show H p = _ from h] at e; cases e
  | hand b => obtain ⟨g, a, c, a1, r⟩ := h; rw [e] at a1; cases a1
  | dct rds => obtain ⟨zs, a, _⟩ := h; rw [e] at a; cases a
  | obj c fs => obtain ⟨dx, vs, a, _⟩ := h; rw [e] at a; cases a
  | dcp rds => obtain ⟨zs, a, _⟩ := h; rw [e] at a; cases a
  | bld c fs g q => obtain ⟨dx, vs, a, _⟩ := h; rw [e] at a; cases a
  | lsa q ls => obtain ⟨x, vs, a, _⟩ := h; rw [e] at a; cases a
  | dcq rds => obtain ⟨zs, a, _⟩ := h; rw [e] at a; cases a
  | lsr qs => rw [show H p = _ from h] at e; cases e
/-- a slot that is data -/
theorem Rep.val (R : Rep T F ρ C σ H) {d : PyData} (h : ρ[i]? = some (.val d)) : ∃ x, σ[i]? = some (some x) ∧ Da T.w C x d := R.slot i _ h
theorem Rep.own (R : Rep T F ρ C σ H) {r : Bool} {o : Own} (h : ρ[i]? = some (.own r o)) : ∃ p, σ[i]? = some (some (.ref p)) ∧ C p = none ∧ OwnAt T C H p o := by
  obtain ⟨p, a, b, c, _⟩ := R.slot i _ h
  exact ⟨p, a, b, c⟩
end

/-! ## Readings over pure states -/
abbrev QE := Ro → (PyData → Ro → Prop) → Prop
abbrev QT := Ro → (Bool → Ro → Prop) → Prop
abbrev QA := Ro → (List PyData → Ro → Prop) → Prop
structure Qn where
  nx : Ro → Prop
  rt : PyData → Ro → Prop
  bk : Ro → Prop := fun _ => False
  ct : Ro → Prop := fun _ => False
abbrev QS := Qn → Ro → Prop
def liftE (T : PK) (q : QE) : TE := fun σ H Q => ∃ F ρ C, Rep T F ρ C σ H ∧ ∃ κ, q ρ κ ∧ ∀ d ρ' v C' H', κ d ρ' → Same C C' → Rep T F ρ' C' σ H' → Da T.w C' v d → Q v H'
def liftT (T : PK) (q : QT) : TT := fun σ H Q => ∃ F ρ C, Rep T F ρ C σ H ∧ ∃ κ, q ρ κ ∧ ∀ b ρ' C' H', κ b ρ' → Same C C' → Rep T F ρ' C' σ H' → Q b H'
def liftS (T : PK) (q : QS) : TS := fun D σ H => ∃ F ρ C, Rep T F ρ C σ H ∧ ∃ κ : Qn, q κ ρ ∧
  (∀ ρ' C' σ' H', κ.nx ρ' → Same C C' → Rep T F ρ' C' σ' H' → D.nx σ' H') ∧
  (∀ d ρ' v C' σ' H', κ.rt d ρ' → Same C C' → Rep T F ρ' C' σ' H' → Da T.w C' v d → D.rt v H') ∧
  (∀ ρ' C' σ' H', κ.bk ρ' → Same C C' → Rep T F ρ' C' σ' H' → D.bk σ' H') ∧
  (∀ ρ' C' σ' H', κ.ct ρ' → Same C C' → Rep T F ρ' C' σ' H' → D.ct σ' H')
abbrev PQ (τ : Tb) (X : Cx) (e : Expr) (q : QE) : Prop := PE X e (liftE (X.pk τ) q)
abbrev PQT (τ : Tb) (X : Cx) (e : Expr) (q : QT) : Prop := PT X e (liftT (X.pk τ) q)
abbrev PQS (τ : Tb) (X : Cx) (s : Stmt) (q : QS) : Prop := PS X s (liftS (X.pk τ) q)
abbrev PQSs (τ : Tb) (X : Cx) (s : List Stmt) (q : QS) : Prop := PSs X s (liftS (X.pk τ) q)
/-- a reading may be made stronger -/
theorem pe_imp {X : Cx} {e : Expr} {t : TE} (t' : TE) (p : PE X e t) (h : ∀ σ H Q, t' σ H Q → t σ H Q) : PE X e t' := ⟨fun pins s σ H Q I q => p.run pins s σ H Q I (h σ H Q q)⟩
theorem pt_imp {X : Cx} {e : Expr} {t : TT} (t' : TT) (p : PT X e t) (h : ∀ σ H Q, t' σ H Q → t σ H Q) : PT X e t' := ⟨fun pins s σ H Q I q => p.run pins s σ H Q I (h σ H Q q)⟩
theorem pw_imp {X : Cx} {e : Expr} {t : TT} (t' : TT) (p : PW X e t) (h : ∀ σ H Q, t' σ H Q → t σ H Q) : PW X e t' := ⟨fun wh pins s σ H Q I q => p.run wh pins s σ H Q I (h σ H Q q)⟩
theorem pa_imp {X : Cx} {e : List Expr} {t : TA} (t' : TA) (p : PA X e t) (h : ∀ σ H Q, t' σ H Q → t σ H Q) : PA X e t' := ⟨fun pos pins s σ H Q I q => p.run pos pins s σ H Q I (h σ H Q q)⟩
theorem ps_imp {X : Cx} {e : Stmt} {t : TS} (t' : TS) (p : PS X e t) (h : ∀ D σ H, t' D σ H → t D σ H) : PS X e t' := ⟨fun pins s σ H D I q => p.run pins s σ H D I (h D σ H q)⟩
theorem pss_imp {X : Cx} {e : List Stmt} {t : TS} (t' : TS) (p : PSs X e t) (h : ∀ D σ H, t' D σ H → t D σ H) : PSs X e t' := ⟨fun pins s σ H D I q => p.run pins s σ H D I (h D σ H q)⟩
end L2.Pu

set_option Elab.async false
set_option linter.all false
set_option maxRecDepth 100000
set_option maxHeartbeats 4000000
/-! ## Expressions -/
namespace L2.Pu
open PySem PySem.Spec PyProof.Rows
section
variable {X : Cx} {τ : Tb}
def qC (d : PyData) : QE := fun ρ κ => κ d ρ
theorem c_imp {T : PK} {v : V} {d : PyData} (h : ∀ C, Da T.w C v d) : ∀ σ H Q, liftE T (qC d) σ H Q → tC v σ H Q := by
  rintro σ H Q ⟨F, ρ, C, R, κ, k, q⟩
  exact q _ _ _ _ _ k (same_refl _) R (h C)
theorem qe_int {i j pos} : PQ τ X (.Constant (.int i) j pos) (qC (.int i)) := pe_imp _ pe_int (c_imp fun _ => .int i)
theorem qe_bl {b j pos} : PQ τ X (.Constant (.bool b) j pos) (qC (.bool b)) := pe_imp _ pe_bl (c_imp fun _ => .bl b)
theorem qe_str {x j pos} : PQ τ X (.Constant (.str x) j pos) (qC (.str x)) := pe_imp _ pe_str (c_imp fun _ => .str x)
theorem qe_glob {x : Str} {v : V} {d : PyData} {e : Expr} (p : PE X e (tC v)) (h : ∀ C, Da X.w C v d) : PQ τ X e (qC d) := pe_imp _ p (c_imp h)
def qVar (i : Nat) : QE := fun ρ κ => match ρ[i]? with
  | some (.val d) => κ d ρ
  | _ => False
theorem qVar_of {i : Nat} {ρ : Ro} {κ : PyData → Ro → Prop} (h : qVar i ρ κ) : ∃ d, ρ[i]? = some (.val d) ∧ κ d ρ := by
  unfold qVar at h
  split at h
  · exact ⟨_, by assumption, h⟩
  · exact h.elim
theorem qe_var {i : Nat} {x : Str} {pos : Pos} (p : PE X (.Name x pos) (tVar i)) : PQ τ X (.Name x pos) (qVar i) := by
  refine pe_imp _ p ?_
  rintro σ H Q ⟨F, ρ, C, R, κ, k, q⟩
  obtain ⟨d, e, k⟩ := qVar_of k
  obtain ⟨v, hv, hd⟩ := R.val e
  exact ⟨v, hv, q _ _ _ _ _ k (same_refl _) R hd⟩
/-- an own list is handed on as data: it changes no more -/
def qFrz (i : Nat) : QE := fun ρ κ => match ρ[i]? with
  | some (.own false (.lst ds)) => κ (.list ds) (ρ.set i (.val (.list ds)))
  | _ => False
theorem own_nsys {T : PK} {F : Fm} {ρ : Ro} {C : Hp} {σ : St} {H : Hp} {p : Addr} (R : Rep T F ρ C σ H) (h : C p = none) : True := trivial
theorem qe_frz {i : Nat} {x : Str} {pos : Pos} (p : PE X (.Name x pos) (tVar i)) : PQ τ X (.Name x pos) (qFrz i) := by
  refine pe_imp _ p ?_
  rintro σ H Q ⟨F, ρ, C, R, κ, k, q⟩
  unfold qFrz at k
  split at k
  · rename_i ds e
    obtain ⟨a, hv, cp, vs, hp, hd⟩ := R.own e
    have dd : Da X.w (upd C a (.lst vs)) (.ref a) (.list ds) := .lst upd_same (own_nsys R cp) (hd.mono (same_new cp))
    obtain ⟨R', _⟩ := R.freeze e hv hp dd
    exact ⟨_, hv, q _ _ _ _ _ k (same_new cp) R' dd⟩
  · exact k.elim

/-! ### argument lists -/
def qaNil : QA := fun ρ κ => κ [] ρ
def qaCons (q : QE) (r : QA) : QA := fun ρ κ => q ρ fun d ρ1 => r ρ1 fun ds ρ2 => κ (d :: ds) ρ2
/-- .. of n expressions -/
def liftN (T : PK) (n : Nat) (q : QA) : TA := fun σ H Q => ∃ F ρ C, Rep T F ρ C σ H ∧ ∃ κ, q ρ κ ∧ ∀ ds ρ' vs C' H', κ ds ρ' → Same C C' → Rep T F ρ' C' σ H' → DaAll T.w C' vs ds → ds.length = n → Q vs H'
abbrev PQN (τ : Tb) (X : Cx) (es : List Expr) (n : Nat) (q : QA) : Prop := PA X es (liftN (X.pk τ) n q)
theorem qa_nil : PQN τ X [] 0 qaNil := by
  refine pa_imp _ pa_nil ?_
  rintro σ H Q ⟨F, ρ, C, R, κ, k, q⟩
  exact q _ _ _ _ _ k (same_refl _) R .nil rfl
theorem qa_cons {e : Expr} {es : List Expr} {n : Nat} {q : QE} {r : QA} (h : PQ τ X e q) (t : PQN τ X es n r) (hs : starEach (e :: es) X.env = (false, eval e X.env) :: starEach es X.env := by rfl) : PQN τ X (e :: es) (n + 1) (qaCons q r) := by
  refine pa_imp _ (pa_cons h t hs) ?_
  rintro σ H Q ⟨F, ρ, C, R, κ, k, z⟩
  refine ⟨F, ρ, C, R, _, k, fun d ρ1 v C1 H1 k1 s1 R1 d1 => ?_⟩
  refine ⟨F, ρ1, C1, R1, _, k1, fun ds ρ2 vs C2 H2 k2 s2 R2 d2 hl => ?_⟩
  exact z _ _ _ _ _ k2 (same_trans s1 s2) R2 (.cons (d1.mono s2) d2) (by rw [List.length_cons, hl])
def qTup (q : QA) : QE := fun ρ κ => q ρ fun ds ρ1 => κ (.tuple ds) ρ1
def qList (q : QA) : QE := fun ρ κ => q ρ fun ds ρ1 => κ (.list ds) ρ1
/-- a locked tuple is read -/
theorem sqF {K : PySem.W.Frag} {H : Hp} {a : Addr} {o : Obj} {xs : List V} (h : H a = some (.frz o (.tup xs))) : SqT K H a xs := .inl (.inr ⟨o, h⟩)
/-- a new tuple, its object known: no attributes of its own -/
def Fine (o : HO) (xs : List V) : Prop := ∃ ob : Obj, o = .frz ob (.tup xs) ∧ ob.dict = none
theorem tup_new {P : Program} {w : World} {H : Hp} {h : Heap} {xs : List V} {its : List Value} (z : xs.length ≤ sizeLine) (r : Vals xs its) :
    ObjOk P w H (h.push { cls := .type "tuple", data := .seq its.toArray }) h.objs.size (.frz { cls := .type "tuple", data := .seq its.toArray } (.tup xs)) := ⟨Heap.get?_push_size _ rfl, z, its, r, IsTup.new _ _⟩
def tTupF (t : TA) : TE := fun σ H Q => t σ H fun xs H1 => xs.length ≤ sizeLine ∧ ∀ p o, H1 p = none → Fine o xs → Q (.ref p) (upd H1 p o)
theorem pe_tupF {es : List Expr} {t : TA} {x1} {pos : Pos} (h : PA X es t) : PE X (.Tuple es x1 pos) (tTupF t) := by
  refine ⟨fun pins s σ H Q I hq => wpAny_Tuple_spliced (thn (h.run pos pins s σ H _ I hq) fun us s1 g => ?_)⟩
  obtain ⟨xs, H1, I1, r, z, q⟩ := g
  exact ⟨by rw [← r.length]; exact z, .ref s1.heap.objs.size, _, I1.laid (t' := s1.toks) (fun b u e => Heap.get?_push_of_some _ e) (Nat.le_refl _) (tup_new z r), rfl, q _ _ (I1.hok.fresh (Nat.le_refl _)) ⟨_, rfl, rfl⟩⟩
theorem qe_tup {es : List Expr} {n : Nat} {q : QA} {x1} {pos : Pos} (h : PQN τ X es n q) (hn : n ≤ 1000 := by decide) : PQ τ X (.Tuple es x1 pos) (qTup q) := by
  refine pe_imp _ (pe_tupF h) ?_
  rintro σ H Q ⟨F, ρ, C, R, κ, k, z⟩
  refine ⟨F, ρ, C, R, _, k, fun ds ρ1 vs C1 H1 k1 s1 R1 d1 hl => ⟨?_, fun p o np fo => ?_⟩⟩
  · rw [d1.length, hl]; exact Nat.le_trans hn (by rw [sizeLine_eq]; decide)
  · obtain ⟨ob, rfl, hd⟩ := fo
    have cp := sub_none R1.sub np
    exact z _ _ _ _ _ k1 (same_trans s1 (same_new cp)) (R1.lay np) (.tup upd_same hd (d1.mono (same_new cp)))
theorem qe_list {es : List Expr} {n : Nat} {q : QA} {pos : Pos} (h : PQN τ X es n q) (hn : n ≤ 1000 := by decide) : PQ τ X (.List es pos) (qList q) := by
  refine pe_imp _ (pe_lst h) ?_
  rintro σ H Q ⟨F, ρ, C, R, κ, k, z⟩
  refine ⟨F, ρ, C, R, _, k, fun ds ρ1 vs C1 H1 k1 s1 R1 d1 hl => ⟨?_, fun p np => ?_⟩⟩
  · rw [d1.length, hl]; exact Nat.le_trans hn (by rw [sizeLine_eq]; decide)
  · have cp := sub_none R1.sub np
    exact z _ _ _ _ _ k1 (same_trans s1 (same_new cp)) (R1.lay np) (.lst upd_same (R1.nsys np) (d1.mono (same_new cp)))

/-! ### one level of data, or of an own thing -/
/-- v is read as d: its items are data, itself is data or an own thing -/
inductive Bo (w : World) (C H : Hp) : V → PyData → Prop
  | non : Bo w C H .non .none
  | bl (b : Bool) : Bo w C H (.bl b) (.bool b)
  | int (i : Int) : Bo w C H (.int i) (.int i)
  | str (x : Str) : Bo w C H (.str x) (.str x)
  | lst {a : Addr} {xs : List V} {ds : List PyData} : H a = some (.lst xs) → DaAll w C xs ds → Bo w C H (.ref a) (.list ds)
  | tup {a : Addr} {o : Obj} {xs : List V} {ds : List PyData} : C a = some (.frz o (.tup xs)) → o.dict = none → DaAll w C xs ds → Bo w C H (.ref a) (.tuple ds)
  | dic {a : Addr} {kvs : List (Key × V)} {es : List (Key × PyData)} : Rd H a (.dK kvs) → kvs.map (·.1) = es.map (·.1) → DaAll w C (kvs.map (·.2)) (es.map (·.2)) → Bo w C H (.ref a) (.dict (es.map fun e => (keyD e.1, e.2)))
  | dicT {a : Addr} {o : Obj} {u : HO} {zs : List (List Str × Addr × V)} {rds : List (List Str × PyData)} : C a = some (.frz o u) → DT w a o zs → (∀ z ∈ zs, KeyAt C z) → zs.map (·.1) = rds.map (·.1) → rds ≠ [] → DaAll w C (zs.map (·.2.2)) (rds.map (·.2)) → Bo w C H (.ref a) (.dict (rds.map fun e => (.tuple (e.1.map PyData.str), e.2)))
theorem Da.bo {C H : Hp} {v : V} {d : PyData} (s : Same C H) (h : Da w C v d) : Bo w C H v d := by
  cases h with
  | non => exact .non
  | bl b => exact .bl b
  | int i => exact .int i
  | str x => exact .str x
  | lst e _ h => exact .lst (s _ _ e) h
  | tup e n h => exact .tup e n h
  | dic e k h => exact .dic (.inr ⟨_, s _ _ e⟩) k h
  | dicT e t ks k ne h => exact .dicT e t ks k ne h
/-- what an own thing is read as -/
def Own.dat : Own → Option PyData
  | .lst ds => some (.list ds)
  | .lsa _ ds => some (.list ds)
  | .dic es => some (.dict (es.map fun e => (keyD e.1, e.2)))
  | _ => none
theorem OwnAt.bo {T : PK} {C H : Hp} {p : Addr} {o : Own} {d : PyData} (h : OwnAt T C H p o) (e : o.dat = some d) : Bo T.w C H (.ref p) d := by
  cases o with
  | lst ds => obtain ⟨vs, a, b⟩ := h; cases e; exact .lst a b
  | dic es => obtain ⟨vs, a, k, b⟩ := h; cases e; exact .dic (.inl a) k b
  | set xs => cases e
  | hand b => cases e
  | dct rds => cases e
  | obj c fs => cases e
  | dcp rds => cases e
  | bld c fs g q => cases e
  | lsa q ls => obtain ⟨_, vs, a, b⟩ := h; cases e; exact .lst a b
  | dcq rds => cases e
  | lsr qs => cases e
/-- slot i is data or an own thing that is read as d -/
def datAt (ρ : Ro) (i : Nat) : Option PyData := match ρ[i]? with
  | some (.val d) => some d
  | some (.own _ o) => o.dat
  | _ => none
theorem Rep.bo {T : PK} {F : Fm} {ρ : Ro} {C : Hp} {σ : St} {H : Hp} {i : Nat} {d : PyData} (R : Rep T F ρ C σ H) (h : datAt ρ i = some d) : ∃ v, σ[i]? = some (some v) ∧ Bo T.w C H v d := by
  unfold datAt at h
  split at h
  · rename_i d' e
    cases h
    obtain ⟨v, a, b⟩ := R.val e
    exact ⟨v, a, b.bo R.sub⟩
  · rename_i r o e
    obtain ⟨p, a, b, c⟩ := R.own e
    exact ⟨_, a, c.bo h⟩
  · cases h
/-! ### operators: by the kinds of the data -/
/-- what an operator asks of the data, and gives -/
abbrev D2 := PyData → PyData → (PyData → Prop) → Prop
def qOp (r : D2) (a b : QE) : QE := fun ρ κ => a ρ fun x ρ1 => b ρ1 fun y ρ2 => r x y fun z => κ z ρ2
/-- a rule on values that follows from one on data -/
def OkD (τ : Tb) (X : Cx) (r2 : R2) (r : D2) : Prop := ∀ (F : Fm) (ρ : Ro) (C : Hp) (σ : St) (H : Hp) (x y : V) (d e : PyData) (P : PyData → Prop) (Q : VK), Rep (X.pk τ) F ρ C σ H → Bo X.w C H x d → Bo X.w C H y e → r d e P →
  (∀ z v C' H', P z → Same C C' → Rep (X.pk τ) F ρ C' σ H' → Da X.w C' v z → Q v H') → r2 x y H Q
theorem op_imp {r2 : R2} {r : D2} {a b : QE} (ok : OkD τ X r2 r) : ∀ σ H Q, liftE (X.pk τ) (qOp r a b) σ H Q → tOp r2 (liftE (X.pk τ) a) (liftE (X.pk τ) b) σ H Q := by
  rintro σ H Q ⟨F, ρ, C, R, κ, k, z⟩
  refine ⟨F, ρ, C, R, _, k, fun d ρ1 v C1 H1 k1 s1 R1 d1 => ?_⟩
  refine ⟨F, ρ1, C1, R1, _, k1, fun e ρ2 u C2 H2 k2 s2 R2 d2 => ?_⟩
  exact ok F ρ2 C2 σ H2 v u d e _ Q R2 ((d1.mono s2).bo R2.sub) (d2.bo R2.sub) k2 fun w v C' H' kw s' R' d' => z _ _ _ _ _ kw (same_trans s1 (same_trans s2 s')) R' d'
def orR (r s : R2) : R2 := fun x y H Q => r x y H Q ∨ s x y H Q
theorem OpR.or {f : Value → Value → Sem Value} {r s : R2} (a : OpR X f r) (b : OpR X f s) : OpR X f (orR r s) := fun pins sh σ H x y v u Q I rx ry h =>
  h.elim (a pins sh σ H x y v u Q I rx ry) (b pins sh σ H x y v u Q I rx ry)
/-- a rule with one answer that leaves the heap as it is -/
theorem okq {F : Fm} {ρ : Ro} {C : Hp} {σ : St} {H : Hp} {P : PyData → Prop} {Q : VK} (R : Rep (X.pk τ) F ρ C σ H) (z : ∀ z v C' H', P z → Same C C' → Rep (X.pk τ) F ρ C' σ H' → Da X.w C' v z → Q v H') {d : PyData} {v : V} (h : P d) (dv : Da X.w C v d) : Q v H := z d v C H h (same_refl _) R dv
theorem line_le {n : Nat} (h : n ≤ 16000000) : n ≤ sizeLine := Nat.le_trans h (by rw [sizeLine_eq]; decide)
/-- t + u, the new tuple's object known -/
def rCatF (K : PySem.W.Frag) : R2 := fun x y H Q => ∃ a b xs ys, x = .ref a ∧ y = .ref b ∧ SqT K H a xs ∧ SqT K H b ys ∧ xs.length + ys.length ≤ sizeLine ∧
  (xs = [] → Q (.ref b) H) ∧ (xs ≠ [] → ys = [] → Q (.ref a) H) ∧ ∀ p o, H p = none → Fine o (xs ++ ys) → Q (.ref p) (upd H p o)
theorem op_catF : OpR X (binaryOp .Add) (rCatF X.K) := by
  intro pins s σ H x y v u Q I rx ry h
  obtain ⟨a, b, xs, ys, rfl, rfl, ha, hb, hz, q0, q1, q2⟩ := h
  obtain rfl : v = Value.ref a := rx
  obtain rfl : u = Value.ref b := ry
  obtain ⟨us, r1, t1, _⟩ := I.tuple ha
  obtain ⟨ws, r2, t2, _⟩ := I.tuple hb
  by_cases e : xs = []
  · have eu : us = [] := r1.nil_iff.mpr e
    subst eu
    exact cat_tup0 t1 t2 ⟨.ref b, H, I, rfl, q0 e⟩
  · refine HT.cat_tup t1 t2 (fun z => e (r1.nil_iff.mp z)) (fun z => ⟨.ref a, H, I, rfl, q1 e (r2.nil_iff.mp z)⟩) (fun z => ?_) (by rw [← r1.length, ← r2.length]; exact hz)
    have lz : (xs ++ ys).length ≤ sizeLine := by rw [List.length_append]; exact hz
    exact ⟨.ref s.heap.objs.size, _, I.laid (t' := s.toks) (fun b ob q => Heap.get?_push_of_some _ q) (Nat.le_refl _) (tup_new lz (r1.append r2)), rfl, q2 _ _ (I.hok.fresh (Nat.le_refl _)) ⟨_, rfl, rfl⟩⟩
def addD : D2 := fun x y P => match x, y with
  | .int a, .int b => P (.int (a + b))
  | .str a, .str b => a.length + b.length ≤ 16000000 ∧ P (.str (a ++ b))
  | .tuple a, .tuple b => a.length + b.length ≤ 16000000 ∧ P (.tuple (a ++ b))
  | .list a, .list b => a.length + b.length ≤ 16000000 ∧ P (.list (a ++ b))
  | _, _ => False
abbrev rAdd (K : PySem.W.Frag) : R2 := orR (rI0 fun i j => .int (i + j)) (orR (fun x y H Q => ∃ i j, x = .str i ∧ y = .str j ∧ i.length + j.length ≤ sizeLine ∧ Q (.str (i ++ j)) H) (orR (rCatF K) rCat))
theorem op_addD : OpR X (binaryOp .Add) (rAdd X.K) := OpR.or op_add (OpR.or op_add_str (OpR.or op_catF op_cat))
theorem ok_add : OkD τ X (rAdd X.K) addD := by
  intro F ρ C σ H x y d e P Q R dx dy h z
  cases dx with
  | int a =>
    cases dy with
    | int b => exact .inl ⟨a, b, rfl, rfl, okq R z h (.int _)⟩
    | _ => exact h.elim
  | str a =>
    cases dy with
    | str b => exact .inr (.inl ⟨a, b, rfl, rfl, line_le h.1, okq R z h.2 (.str _)⟩)
    | _ => exact h.elim
  | @tup a oa xs ds ea na da =>
    cases dy with
    | @tup b ob ys es eb nb db =>
      obtain ⟨hl, h⟩ := h
      rw [← da.length, ← db.length] at hl
      refine .inr (.inr (.inl ⟨a, b, xs, ys, rfl, rfl, sqF (R.sub _ _ ea), sqF (R.sub _ _ eb), line_le hl, fun e => ?_, fun _ e => ?_, fun p o np fo => ?_⟩))
      · subst e
        cases da
        exact okq R z h (.tup eb nb db)
      · subst e
        cases db
        rw [List.append_nil] at h
        exact okq R z h (.tup ea na da)
      · obtain ⟨ob, rfl, hd⟩ := fo
        have cp := sub_none R.sub np
        exact z _ _ _ _ h (same_new cp) (R.lay np) (.tup upd_same hd ((da.append db).mono (same_new cp)))
    | _ => exact h.elim
  | @lst a xs ds ea da =>
    cases dy with
    | @lst b ys es eb db =>
      obtain ⟨hl, h⟩ := h
      rw [← da.length, ← db.length] at hl
      refine .inr (.inr (.inr ⟨a, b, xs, ys, rfl, rfl, ea, eb, line_le hl, fun p np => ?_⟩))
      have cp := sub_none R.sub np
      exact z _ _ _ _ h (same_new cp) (R.lay np) (.lst upd_same (R.nsys np) ((da.append db).mono (same_new cp)))
    | _ => exact h.elim
  | _ => exact h.elim
theorem qe_add {a b : Expr} {qa qb : QE} {pos : Pos} (ha : PQ τ X a qa) (hb : PQ τ X b qb) : PQ τ X (.BinOp a .Add b pos) (qOp addD qa qb) := pe_imp _ (pe_op op_addD ha hb) (op_imp ok_add)
/-- operators on whole numbers -/
def intD (Cn : Int → Int → Prop) (g : Int → Int → PyData) : D2 := fun x y P => match x, y with
  | .int a, .int b => Cn a b ∧ P (g a b)
  | _, _ => False
theorem ok_int {Cn : Int → Int → Prop} {g : Int → Int → V} {g' : Int → Int → PyData} (h : ∀ a b C, Da X.w C (g a b) (g' a b)) : OkD τ X (rI Cn g) (intD Cn g') := by
  intro F ρ C σ H x y d e P Q R dx dy hh z
  cases dx with
  | int a =>
    cases dy with
    | int b => exact ⟨a, b, rfl, rfl, hh.1, okq R z hh.2 (h a b C)⟩
    | _ => exact hh.elim
  | _ => exact hh.elim
def intD0 (g : Int → Int → PyData) : D2 := fun x y P => match x, y with
  | .int a, .int b => P (g a b)
  | _, _ => False
theorem ok_int0 {g : Int → Int → V} {g' : Int → Int → PyData} (h : ∀ a b C, Da X.w C (g a b) (g' a b)) : OkD τ X (rI0 g) (intD0 g') := by
  intro F ρ C σ H x y d e P Q R dx dy hh z
  cases dx with
  | int a =>
    cases dy with
    | int b => exact ⟨a, b, rfl, rfl, okq R z hh (h a b C)⟩
    | _ => exact hh.elim
  | _ => exact hh.elim
section
variable {a b : Expr} {qa qb : QE} {pos : Pos}
theorem qe_mod (ha : PQ τ X a qa) (hb : PQ τ X b qb) : PQ τ X (.BinOp a .Mod b pos) (qOp (intD (fun _ j => 0 < j) fun i j => .int (i % j)) qa qb) := pe_imp _ (pe_op op_mod ha hb) (op_imp (ok_int fun _ _ _ => .int _))
def qUn (r : PyData → (PyData → Prop) → Prop) (a : QE) : QE := fun ρ κ => a ρ fun x ρ1 => r x fun z => κ z ρ1
end

/-! ### comparisons -/
/-- data that == and in can walk: no dicts, not too deep -/
abbrev Shp (d : PyData) : Prop := SeqAt.shaped d = true
mutual
theorem Da.dp {K : PySem.W.Frag} {C H : Hp} (s : Same C H) : ∀ {v : V} {d : PyData}, Da w C v d → d.canLay0 = true → Dp K H v d
  | _, _, .non, _ => .non
  | _, _, .bl b, _ => .bl b
  | _, _, .int i, _ => .int i
  | _, _, .str x, _ => .str x
  | _, _, .lst e n h, c => .lst (SqL.of (s _ _ e)) (DaAll.dp s h (by simpa [PyData.canLay0] using c))
  | _, _, .tup e _ h, c => .tup (sqF (s _ _ e)) (DaAll.dp s h (by simpa [PyData.canLay0] using c))
  | _, _, .dic e k h, c => by simp [PyData.canLay0] at c
  | _, _, .dicT e t ks k ne h, c => by simp [PyData.canLay0] at c
theorem DaAll.dp {K : PySem.W.Frag} {C H : Hp} (s : Same C H) : ∀ {vs : List V} {ds : List PyData}, DaAll w C vs ds → PyData.canLayAll0 ds = true → DpAll K H vs ds
  | _, _, .nil, _ => .nil
  | _, _, .cons a t, c => by
    have c' := c
    simp only [PyData.canLayAll0, Bool.and_eq_true] at c'
    exact .cons (Da.dp s a c'.1) (DaAll.dp s t c'.2)
end
theorem Bo.dp {K : PySem.W.Frag} {C H : Hp} (s : Same C H) {v : V} {d : PyData} (h : Bo w C H v d) (c : d.canLay0 = true) : Dp K H v d := by
  cases h with
  | non => exact .non
  | bl b => exact .bl b
  | int i => exact .int i
  | str x => exact .str x
  | lst e h => exact .lst (SqL.of e) (DaAll.dp s h (by simpa [PyData.canLay0] using c))
  | tup e _ h => exact .tup (sqF (s _ _ e)) (DaAll.dp s h (by simpa [PyData.canLay0] using c))
  | dic e k h => simp [PyData.canLay0] at c
  | dicT e t ks k ne h => simp [PyData.canLay0] at c
def eqD : D2 := fun x y P => match x, y with
  | .str a, .str b => P (.bool (decide (a = b)))
  | .int a, .int b => P (.bool (decide (a = b)))
  | .none, .none => P (.bool true)
  | .bool a, .bool b => P (.bool (decide (a = b)))
  | x, y => Shp x ∧ Shp y ∧ P (.bool (PyData.eqv x y))
def neD : D2 := fun x y P => match x, y with
  | .str a, .str b => P (.bool (!decide (a = b)))
  | .int a, .int b => P (.bool (!decide (a = b)))
  | .none, .none => P (.bool false)
  | .bool a, .bool b => P (.bool (!decide (a = b)))
  | x, y => Shp x ∧ Shp y ∧ P (.bool (!PyData.eqv x y))
theorem dec_str (a b : Str) : decide (V.str a = V.str b) = decide (a = b) := by
  by_cases h : a = b
  · rw [decide_eq_true h, decide_eq_true (by rw [h])]
  · rw [decide_eq_false h, decide_eq_false fun e => h (V.str.inj e)]
theorem dec_int (a b : Int) : decide (V.int a = V.int b) = decide (a = b) := by
  by_cases h : a = b
  · rw [decide_eq_true h, decide_eq_true (by rw [h])]
  · rw [decide_eq_false h, decide_eq_false fun e => h (V.int.inj e)]
theorem dec_bl (a b : Bool) : decide (V.bl a = V.bl b) = decide (a = b) := by cases a <;> cases b <;> rfl
theorem ok_eq : OkD τ X (orR rEq (rEqD X.K)) eqD := by
  intro F ρ C σ H x y d e P Q R dx dy h z
  have gen : (Shp d ∧ Shp e ∧ P (.bool (PyData.eqv d e))) → orR rEq (rEqD X.K) x y H Q := fun ⟨a, b, c⟩ =>
    .inr ⟨d, e, dx.dp R.sub (SeqAt.canLay_of_shaped a), dy.dp R.sub (SeqAt.canLay_of_shaped b), a, b, okq R z c (.bl _)⟩
  cases dx <;> cases dy <;> first
    | exact gen h
    | exact .inl ⟨rfl, by rw [dec_str]; exact okq R z h (.bl _)⟩
    | exact .inl ⟨rfl, by rw [dec_int]; exact okq R z h (.bl _)⟩
    | exact .inl ⟨rfl, by rw [dec_bl]; exact okq R z h (.bl _)⟩
    | exact .inl ⟨rfl, okq R z h (.bl _)⟩
theorem ok_ne : OkD τ X (orR rNe (rNeD X.K)) neD := by
  intro F ρ C σ H x y d e P Q R dx dy h z
  have gen : (Shp d ∧ Shp e ∧ P (.bool (!PyData.eqv d e))) → orR rNe (rNeD X.K) x y H Q := fun ⟨a, b, c⟩ =>
    .inr ⟨d, e, dx.dp R.sub (SeqAt.canLay_of_shaped a), dy.dp R.sub (SeqAt.canLay_of_shaped b), a, b, okq R z c (.bl _)⟩
  cases dx <;> cases dy <;> first
    | exact gen h
    | exact .inl ⟨rfl, by rw [dec_str]; exact okq R z h (.bl _)⟩
    | exact .inl ⟨rfl, by rw [dec_int]; exact okq R z h (.bl _)⟩
    | exact .inl ⟨rfl, by rw [dec_bl]; exact okq R z h (.bl _)⟩
    | exact .inl ⟨rfl, okq R z h (.bl _)⟩
section
variable {a b : Expr} {qa qb : QE} {pos : Pos}
theorem qe_eq (hu : X.A.units + 64 < cLine) (ha : PQ τ X a qa) (hb : PQ τ X b qb) : PQ τ X (.Compare a [.Eq] [b] pos) (qOp eqD qa qb) := pe_imp _ (pe_cmpR (OpR.or op_eq (op_eqD hu)) ha hb (nomark _)) (op_imp ok_eq)
theorem qe_ne (hu : X.A.units + 64 < cLine) (ha : PQ τ X a qa) (hb : PQ τ X b qb) : PQ τ X (.Compare a [.NotEq] [b] pos) (qOp neD qa qb) := pe_imp _ (pe_cmpR (OpR.or op_ne (op_neD hu)) ha hb (nomark _)) (op_imp ok_ne)
end
section
variable {a b : Expr} {qa qb : QE} {pos : Pos} {i : Nat}
end
/-- a test that is a comparison -/
def qB (q : QE) : QT := fun ρ κ => q ρ fun d ρ1 => match d with
  | .bool b => κ b ρ1
  | _ => False
theorem test_imp {T : PK} {q : QE} {t : TE} (h : ∀ σ H Q, liftE T q σ H Q → t σ H Q) : ∀ σ H Q, liftT T (qB q) σ H Q → tTest t σ H Q := by
  rintro σ H Q ⟨F, ρ, C, R, κ, k, z⟩
  refine h σ H _ ⟨F, ρ, C, R, _, k, fun d ρ1 v C1 H1 k1 s1 R1 d1 => ?_⟩
  cases d1 with
  | bl b => exact ⟨b, rfl, z _ _ _ _ k1 s1 R1⟩
  | _ => exact k1.elim
section
variable {a b : Expr} {qa qb : QE} {pos : Pos}
theorem qt_eq (hu : X.A.units + 64 < cLine) (ha : PQ τ X a qa) (hb : PQ τ X b qb) : PQT τ X (.Compare a [.Eq] [b] pos) (qB (qOp eqD qa qb)) := pt_imp _ (pt_cmpR (OpR.or op_eq (op_eqD hu)) ha hb (nomark _)) (test_imp (op_imp ok_eq))
theorem qt_ne (hu : X.A.units + 64 < cLine) (ha : PQ τ X a qa) (hb : PQ τ X b qb) : PQT τ X (.Compare a [.NotEq] [b] pos) (qB (qOp neD qa qb)) := pt_imp _ (pt_cmpR (OpR.or op_ne (op_neD hu)) ha hb (nomark _)) (test_imp (op_imp ok_ne))
end
end
end L2.Pu

set_option Elab.async false
set_option linter.all false
set_option maxRecDepth 100000
set_option maxHeartbeats 4000000
/-! ## More expressions -/
namespace L2.Pu
open PySem PySem.Spec PyProof.Rows
section
variable {X : Cx} {τ : Tb} {a b c : Expr} {qa qb qc : QE} {pos : Pos}
abbrev cmpI (g : Int → Int → Bool) : D2 := intD0 fun i j => .bool (g i j)
theorem qt_gt (ha : PQ τ X a qa) (hb : PQ τ X b qb) : PQT τ X (.Compare a [.Gt] [b] pos) (qB (qOp (cmpI fun i j => decide (i > j)) qa qb)) := pt_imp _ (pt_cmpR op_gt ha hb (nomark _)) (test_imp (op_imp (ok_int0 fun _ _ _ => .bl _)))
/-- a < b < c on whole numbers -/
def qChain (g g' : Int → Int → Bool) (a b c : QE) : QE := fun ρ κ => a ρ fun x ρ1 => b ρ1 fun y ρ2 => match x, y with
  | .int i, .int j => yn (g i j) (c ρ2 fun z ρ3 => match z with
      | .int k => κ (.bool (g' j k)) ρ3
      | _ => False) (κ (.bool false) ρ2)
  | _, _ => False
theorem chain_imp {g g' : Int → Int → Bool} : ∀ σ H Q, liftE (X.pk τ) (qChain g g' qa qb qc) σ H Q → tChain (rI0 fun i j => .bl (g i j)) (rI0 fun i j => .bl (g' i j)) (liftE (X.pk τ) qa) (liftE (X.pk τ) qb) (liftE (X.pk τ) qc) σ H Q := by
  rintro σ H Q ⟨F, ρ, C, R, κ, k, z⟩
  refine ⟨F, ρ, C, R, _, k, fun d ρ1 v C1 H1 k1 s1 R1 d1 => ⟨F, ρ1, C1, R1, _, k1, fun e ρ2 u C2 H2 k2 s2 R2 d2 => ?_⟩⟩
  cases d1 with
  | int i =>
    cases d2 with
    | int j =>
      dsimp only at k2
      refine ⟨i, j, rfl, rfl, g i j, rfl, ?_⟩
      cases hg : g i j with
      | false =>
        rw [hg] at k2
        exact z _ _ _ _ _ k2 (same_trans s1 s2) R2 (.bl _)
      | true =>
        rw [hg] at k2
        refine ⟨F, ρ2, C2, R2, _, k2, fun f ρ3 w C3 H3 k3 s3 R3 d3 => ?_⟩
        cases d3 with
        | int l => exact ⟨j, l, rfl, rfl, z _ _ _ _ _ k3 (same_trans s1 (same_trans s2 s3)) R3 (.bl _)⟩
        | _ => exact k3.elim
    | _ => exact k2.elim
  | _ => exact k2.elim

theorem qt_chainLL (ha : PQ τ X a qa) (hb : PQ τ X b qb) (hc : PQ τ X c qc) : PQT τ X (.Compare a [.LtE, .LtE] [b, c] pos) (qB (qChain (fun i j => decide (i ≤ j)) (fun i j => decide (i ≤ j)) qa qb qc)) := pt_imp _ (pt_chain op_le op_le ha hb hc (nomark c)) (test_imp chain_imp)
/-! ### tests -/
theorem qt_val (h : PQ τ X a qa) (he : ∀ whole, isTrue a X.env whole = (do let v ← whole; standAt a.pos; holding [v] (truthy v)) := by intro _; rfl) : PQT τ X a (qB qa) := by
  refine pt_imp _ (pt_val h he) ?_
  rintro σ H Q ⟨F, ρ, C, R, κ, k, z⟩
  refine ⟨F, ρ, C, R, _, k, fun d ρ1 v C1 H1 k1 s1 R1 d1 => ?_⟩
  cases d1 with
  | bl b => exact ⟨b, rfl, z _ _ _ _ k1 s1 R1⟩
  | _ => exact k1.elim
def truD : PyData → Option Bool
  | .none => some false
  | .bool b => some b
  | .int i => some (i != 0)
  | .list ds => some (!ds.isEmpty)
  | .tuple ds => some (!ds.isEmpty)
  | _ => none
theorem isE {C : Hp} {vs : List V} {ds : List PyData} (h : DaAll w C vs ds) : vs.isEmpty = ds.isEmpty := by cases h <;> rfl
section
variable {ta tb : QT} {rest : List Expr}
def qNot (t : QT) : QT := fun ρ κ => t ρ fun b ρ1 => κ (!b) ρ1
theorem qt_not (h : PQT τ X a ta) : PQT τ X (.UnaryOp .Not a pos) (qNot ta) := by
  refine pt_imp _ (pt_not h) ?_
  rintro σ H Q ⟨F, ρ, C, R, κ, k, z⟩
  exact ⟨F, ρ, C, R, _, k, fun b ρ1 C1 H1 k1 s1 R1 => z _ _ _ _ k1 s1 R1⟩
abbrev PQW (τ : Tb) (X : Cx) (e : Expr) (q : QT) : Prop := PW X e (liftT (X.pk τ) q)
def qOr (t u : QT) : QT := fun ρ κ => t ρ fun b ρ1 => yn b (κ true ρ1) (u ρ1 κ)
theorem qw_or1 (h : PQT τ X a ta) : PQW τ X (.BoolOp .Or [a] pos) ta := pw_or1 h
theorem qw_or (h : PQT τ X a ta) (hb : PQW τ X (.BoolOp .Or (b :: rest) pos) tb) : PQW τ X (.BoolOp .Or (a :: b :: rest) pos) (qOr ta tb) := by
  refine pw_imp _ (pw_or h hb) ?_
  rintro σ H Q ⟨F, ρ, C, R, κ, k, z⟩
  refine ⟨F, ρ, C, R, _, k, fun d ρ1 C1 H1 k1 s1 R1 => ?_⟩
  cases d with
  | true => exact z _ _ _ _ k1 s1 R1
  | false => exact ⟨F, ρ1, C1, R1, κ, k1, fun b ρ2 C2 H2 k2 s2 R2 => z _ _ _ _ k2 (same_trans s1 s2) R2⟩
/-- and, or, not as values: all but the last True or False -/
def qAndV (a b : QE) : QE := fun ρ κ => a ρ fun d ρ1 => match d with
  | .bool c => if c = true then b ρ1 κ else κ (.bool false) ρ1
  | _ => False
theorem qe_one {op} (h : PQ τ X a qa) : PQ τ X (.BoolOp op [a] pos) qa := pe_one h
theorem qe_and (h : PQ τ X a qa) (hb : PQ τ X (.BoolOp .And (b :: rest) pos) qb) : PQ τ X (.BoolOp .And (a :: b :: rest) pos) (qAndV qa qb) := by
  refine pe_imp _ (pe_and h hb) ?_
  rintro σ H Q ⟨F, ρ, C, R, κ, k, z⟩
  refine ⟨F, ρ, C, R, _, k, fun d ρ1 v C1 H1 k1 s1 R1 d1 => ?_⟩
  cases d1 with
  | bl c =>
    refine ⟨c, rfl, ?_⟩
    cases c with
    | true => exact ⟨F, ρ1, C1, R1, κ, k1, fun e ρ2 u C2 H2 k2 s2 R2 d2 => z _ _ _ _ _ k2 (same_trans s1 s2) R2 d2⟩
    | false => exact z _ _ _ _ _ k1 s1 R1 (.bl _)
  | _ => exact k1.elim
def notD : PyData → (PyData → Prop) → Prop := fun x P => match x with
  | .bool b => P (.bool (!b))
  | _ => False
theorem qe_not (h : PQ τ X a qa) : PQ τ X (.UnaryOp .Not a pos) (qUn notD qa) := by
  refine pe_imp _ (pe_not h) ?_
  rintro σ H Q ⟨F, ρ, C, R, κ, k, z⟩
  refine ⟨F, ρ, C, R, _, k, fun d ρ1 v C1 H1 k1 s1 R1 d1 => ?_⟩
  cases d1 with
  | bl c => exact ⟨c, rfl, z _ _ _ _ _ k1 s1 R1 (.bl _)⟩
  | _ => exact k1.elim
def qIf (t : QT) (a b : QE) : QE := fun ρ κ => t ρ fun c ρ1 => yn c (a ρ1 κ) (b ρ1 κ)
theorem qe_if {t : Expr} (ht : PQT τ X t ta) (ha : PQ τ X a qa) (hb : PQ τ X b qb) : PQ τ X (.IfExp t a b pos) (qIf ta qa qb) := by
  refine pe_imp _ (pe_ifExp ht ha hb) ?_
  rintro σ H Q ⟨F, ρ, C, R, κ, k, z⟩
  refine ⟨F, ρ, C, R, _, k, fun d ρ1 C1 H1 k1 s1 R1 => ?_⟩
  cases d with
  | true => exact ⟨F, ρ1, C1, R1, κ, k1, fun e ρ2 u C2 H2 k2 s2 R2 d2 => z _ _ _ _ _ k2 (same_trans s1 s2) R2 d2⟩
  | false => exact ⟨F, ρ1, C1, R1, κ, k1, fun e ρ2 u C2 H2 k2 s2 R2 d2 => z _ _ _ _ _ k2 (same_trans s1 s2) R2 d2⟩
end
/-! ### membership -/
def flatD : PyData → Bool
  | .none | .bool _ | .int _ | .str _ => true
  | _ => false
theorem flat_v {C : Hp} {v : V} {d : PyData} (h : Da w C v d) : flatV v = flatD d := by cases h <;> rfl
theorem flat_all {C : Hp} : ∀ {vs : List V} {ds : List PyData}, DaAll w C vs ds → vs.all flatV = ds.all flatD
  | _, _, .nil => rfl
  | _, _, .cons a t => by rw [List.all_cons, List.all_cons, flat_v a, flat_all t]
theorem eq_v {C : Hp} {v u : V} {d e : PyData} (h : Da w C v d) (h' : Da w C u e) (f : flatD d = true) (f' : flatD e = true) : eqV v u = PyData.eqv d e := by
  cases h <;> first | cases f | skip
  all_goals cases h' <;> first | cases f' | skip
  all_goals simp only [eqV, PyData.eqv]
theorem in_v {C : Hp} {u : V} {e : PyData} (h' : Da w C u e) (f' : flatD e = true) : ∀ {vs : List V} {ds : List PyData}, DaAll w C vs ds → ds.all flatD = true → inV u vs = ds.any fun z => PyData.eqv z e
  | _, _, .nil, _ => rfl
  | v :: vs, d :: ds, .cons a t, f => by
    rw [List.all_cons, Bool.and_eq_true] at f
    show (eqV v u || inV u vs) = _
    rw [in_v h' f' t f.2, eq_v a h' f.1 f', List.any_cons]
def Bo.flat {C H : Hp} {v : V} {d : PyData} (h : Bo w C H v d) (f : flatD d = true) : Da w C v d := by
  cases h with
  | non => exact .non
  | bl b => exact .bl b
  | int i => exact .int i
  | str x => exact .str x
  | _ => cases f
def ng (neg b : Bool) : Bool := match neg with
  | true => !b
  | false => b
theorem ng_eq (neg b : Bool) : ng neg b = xor neg b := by cases neg <;> cases b <;> rfl
/-- y among the items ds (x == y for some x) -/
def inSeq (neg : Bool) (x : PyData) (ds : List PyData) (seq : PyData) (P : PyData → Prop) : Prop :=
  ((flatD x && ds.all flatD) = true ∨ (Shp x ∧ Shp seq)) ∧ P (.bool (ng neg (ds.any fun z => PyData.eqv z x)))
def inStr (neg : Bool) (a z : Str) (P : PyData → Prop) : Prop := match a.cps.toList with
  | [c] => P (.bool (ng neg (decide (c ∈ z.cps.toList))))
  | _ => P (.bool (ng neg (!(Builtin.Str.occurrences z a 0 z.length 1).isEmpty)))
/-- x in y: one sign in a text, a text in a text, data in a list or a tuple (by ==) -/
def inD (neg : Bool) : D2 := fun x y P => match y with
  | .list ds => inSeq neg x ds (.list ds) P
  | .tuple ds => inSeq neg x ds (.tuple ds) P
  | .str z => match x with
    | .str a => inStr neg a z P
    | _ => False
  | _ => False
def rInT (K : PySem.W.Frag) (neg : Bool) : R2 := fun x y H Q => ∃ d ds, Dp K H x d ∧ (Dp K H y (.list ds) ∨ Dp K H y (.tuple ds)) ∧ SeqAt.shaped d = true ∧ SeqAt.shaped (.list ds) = true ∧ Q (.bl (xor neg (ds.any fun z => PyData.eqv z d))) H
theorem op_inT (hu : X.A.units + 65 < cLine) : OpR X (compareOp .In) (rInT X.K false) := by
  intro pins s σ H x y v u Q I rx ry h
  obtain ⟨d, ds, hd, he, sd, se, q⟩ := h
  obtain ⟨as, r1⟩ := Dp.reads I d x v hd rx
  rw [Bool.false_xor] at q
  rcases he with he | he
  · obtain ⟨bs, r2⟩ := Dp.reads I (.list ds) y u he ry
    exact SeqAt.in_list_reads r2 r1 (SeqAt.canLay_of_shaped se) (SeqAt.canLay_of_shaped sd) (room_in_shaped sd hu) ⟨.bl _, H, I, rfl, q⟩
  · obtain ⟨bs, r2⟩ := Dp.reads I (.tuple ds) y u he ry
    exact SeqAt.in_tuple_reads r2 r1 (SeqAt.canLay_of_shaped se) (SeqAt.canLay_of_shaped sd) (room_in_shaped sd hu) ⟨.bl _, H, I, rfl, q⟩
theorem op_notInT (hu : X.A.units + 65 < cLine) : OpR X (compareOp .NotIn) (rInT X.K true) := by
  intro pins s σ H x y v u Q I rx ry h
  obtain ⟨d, ds, hd, he, sd, se, q⟩ := h
  obtain ⟨as, r1⟩ := Dp.reads I d x v hd rx
  rw [Bool.true_xor] at q
  rcases he with he | he
  · obtain ⟨bs, r2⟩ := Dp.reads I (.list ds) y u he ry
    exact SeqAt.notIn_list_reads r2 r1 (SeqAt.canLay_of_shaped se) (SeqAt.canLay_of_shaped sd) (room_in_shaped sd hu) ⟨.bl _, H, I, rfl, q⟩
  · obtain ⟨bs, r2⟩ := Dp.reads I (.tuple ds) y u he ry
    exact SeqAt.notIn_tuple_reads r2 r1 (SeqAt.canLay_of_shaped se) (SeqAt.canLay_of_shaped sd) (room_in_shaped sd hu) ⟨.bl _, H, I, rfl, q⟩
abbrev rIn1 (neg : Bool) : R2 := fun x y H Q => ∃ (c : Nat) (z : Str), x = .str ⟨#[c]⟩ ∧ y = .str z ∧ Q (.bl (xor neg (decide (c ∈ z.cps.toList)))) H
abbrev rInZ (neg : Bool) : R2 := fun x y H Q => ∃ i j, x = .str i ∧ y = .str j ∧ Q (.bl (xor neg (!(Builtin.Str.occurrences j i 0 j.length 1).isEmpty))) H
abbrev rInAll (K : PySem.W.Frag) (neg : Bool) : R2 := orR (rIn1 neg) (orR (rInZ neg) (orR (rIn K neg) (rInT K neg)))
theorem OpR.cong {f : Value → Value → Sem Value} {r s : R2} (a : OpR X f r) (h : ∀ x y H Q, s x y H Q → r x y H Q) : OpR X f s := fun pins sh σ H x y v u Q I rx ry q => a pins sh σ H x y v u Q I rx ry (h _ _ _ _ q)
theorem op_inAll (hu : X.A.units + 65 < cLine) : OpR X (compareOp .In) (rInAll X.K false) :=
  OpR.or (OpR.cong op_in_sign fun x y H Q ⟨c, z, a, b, q⟩ => ⟨c, z, a, b, by rw [Bool.false_xor] at q; exact q⟩)
    (OpR.or (OpR.cong op_in_str fun x y H Q ⟨c, z, a, b, q⟩ => ⟨c, z, a, b, by rw [Bool.false_xor] at q; exact q⟩) (OpR.or op_in_seq (op_inT hu)))
theorem op_notInAll (hu : X.A.units + 65 < cLine) : OpR X (compareOp .NotIn) (rInAll X.K true) :=
  OpR.or (OpR.cong op_notIn_sign fun x y H Q ⟨c, z, a, b, q⟩ => ⟨c, z, a, b, by rw [Bool.true_xor] at q; exact q⟩)
    (OpR.or (OpR.cong op_notIn_str fun x y H Q ⟨c, z, a, b, q⟩ => ⟨c, z, a, b, by rw [Bool.true_xor] at q; exact q⟩) (OpR.or op_notIn_seq (op_notInT hu)))
theorem ok_in {neg : Bool} : OkD τ X (rInAll X.K neg) (inD neg) := by
  intro F ρ C σ H x y d e P Q R dx dy h z
  have seq : ∀ (ds : List PyData) (sq : PyData) (a : Addr) (xs : List V), y = .ref a → (SqL X.K H a xs ∨ SqT X.K H a xs) → DaAll X.w C xs ds → e = sq → (sq = .list ds ∨ sq = .tuple ds) → inSeq neg d ds sq P → rInAll X.K neg x y H Q := by
    intro ds sq a xs ey hq hd es hs h
    obtain ⟨hf | ⟨s1, s2⟩, h⟩ := h <;> rw [ng_eq] at h
    · rw [Bool.and_eq_true] at hf
      have dx' := dx.flat hf.1
      refine .inr (.inr (.inl ⟨a, xs, ey, hq, by rw [flat_v dx']; exact hf.1, by rw [flat_all hd]; exact hf.2, ?_⟩))
      have e1 := in_v dx' hf.1 hd hf.2
      cases neg with
      | false => rw [Bool.false_xor] at h; exact okq R z h (by rw [← e1]; exact .bl _)
      | true => rw [Bool.true_xor] at h; exact okq R z h (by rw [← e1]; exact .bl _)
    · have s3 : SeqAt.shaped (.list ds) = true := by rcases hs with rfl | rfl <;> exact s2
      refine .inr (.inr (.inr ⟨d, ds, dx.dp R.sub (SeqAt.canLay_of_shaped s1), ?_, s1, s3, okq R z h (.bl _)⟩))
      subst es
      rcases hs with rfl | rfl
      · exact .inl (dy.dp R.sub (SeqAt.canLay_of_shaped s2))
      · exact .inr (dy.dp R.sub (SeqAt.canLay_of_shaped s2))
  cases dy with
  | str w =>
    cases dx with
    | str a =>
      have h : inStr neg a w P := h
      unfold inStr at h
      simp only [ng_eq] at h
      split at h
      · rename_i c e1
        have e2 : a = ⟨#[c]⟩ := by
          cases a with
          | mk cps => cases cps with
            | mk l => cases e1; rfl
        exact .inl ⟨c, _, by rw [e2], rfl, okq R z h (.bl _)⟩
      · exact .inr (.inl ⟨_, _, rfl, rfl, okq R z h (.bl _)⟩)
    | _ => exact False.elim h
  | @lst a xs ds ea da => exact seq ds (.list ds) a xs rfl (.inl (SqL.of ea)) da rfl (.inl rfl) h
  | @tup a oa xs ds ea na da => exact seq ds (.tuple ds) a xs rfl (.inr (sqF (R.sub _ _ ea))) da rfl (.inr rfl) h
  | _ => exact False.elim h
section
variable {i : Nat}
theorem qe_in (hu : X.A.units + 65 < cLine) (ha : PQ τ X a qa) (hb : PQ τ X b qb) (hm : behindInMarks .In b = false := by with_unfolding_all rfl) : PQ τ X (.Compare a [.In] [b] pos) (qOp (inD false) qa qb) := pe_imp _ (pe_cmpR (op_inAll hu) ha hb hm) (op_imp ok_in)
theorem qe_notIn (hu : X.A.units + 65 < cLine) (ha : PQ τ X a qa) (hb : PQ τ X b qb) (hm : behindInMarks .NotIn b = false := by with_unfolding_all rfl) : PQ τ X (.Compare a [.NotIn] [b] pos) (qOp (inD true) qa qb) := pe_imp _ (pe_cmpR (op_notInAll hu) ha hb hm) (op_imp ok_in)
end
end
end L2.Pu

set_option Elab.async false
set_option linter.all false
set_option maxRecDepth 100000
set_option maxHeartbeats 4000000
/-! ## Things that are new, statements -/
namespace L2.Pu
open PySem PySem.Spec PyProof.Rows
section
variable {T : PK} {F : Fm} {ρ : Ro} {C : Hp} {σ : St} {H : Hp} {i : Nat} {p : Addr}
/-- p is nobody's yet -/
structure Fresh (F : Fm) (ρ : Ro) (C : Hp) (σ : St) (p : Addr) : Prop where
  core : C p = none
  start : F.H0 p = none
  owned : ∀ (j : Nat) (r : Bool) (o : Own), ρ[j]? = some (.own r o) → σ[j]? ≠ some (some (.ref p))
theorem Rep.new_fresh (R : Rep T F ρ C σ H) (h : H p = none) : Fresh F ρ C σ p := by
  refine ⟨sub_none R.sub h, R.fresh h, fun j r o hj hv => ?_⟩
  obtain ⟨q, a, b, c⟩ := R.own hj
  rw [hv] at a; cases a
  obtain ⟨u, hu⟩ := c.ex
  rw [h] at hu; cases hu
/-- p is kept as it is meanwhile -/
def Fm.guard (F : Fm) (p : Addr) (u : HO) : Fm := ⟨F.C0, upd F.H0 p u, F.refs⟩
theorem Rep.guard (R : Rep T F ρ C σ H) (f : Fresh F ρ C σ p) {u : HO} (h : H p = some u) (no : NoTb u := by intro _ z; cases z) : Rep T (F.guard p u) ρ C σ H := by
  refine ⟨R.c0, R.sub, fun b o k nk hr => ?_, fun b ps k => ?_, R.htb, R.ctab, R.tabs, fun b o k k0 => ?_, R.refd, R.sys, R.len, fun j s hj => ?_, R.apart⟩
  · by_cases e : b = p
    · subst e
      have k : upd F.H0 b u b = some o := k
      rw [upd_same] at k; cases k; exact h
    · have k : upd F.H0 p u b = some o := k
      rw [upd_ne e] at k; exact R.keep b o k nk hr
  · by_cases e : b = p
    · subst e
      have k : upd F.H0 b u b = some (.tbl ps) := k
      rw [upd_same] at k; cases k; exact absurd rfl (no ps)
    · have k : upd F.H0 p u b = some (.tbl ps) := k
      rw [upd_ne e] at k; exact R.tbl b ps k
  · show upd F.H0 p u b = none ∨ _
    rw [upd_ne (ne_of_none k f.core)]; exact R.new b o k k0
  · have hs := R.slot j s hj
    cases s with
    | un => trivial
    | val d => exact hs
    | scr ns => exact hs
    | exc c d => exact hs
    | fnc f c q σc vs => exact hs
    | own r o =>
      obtain ⟨q, a, b, c, d⟩ := hs
      refine ⟨q, a, b, c, ?_⟩
      cases r with
      | true => exact d
      | false =>
        show upd F.H0 p u q = none
        rw [upd_ne (fun e => f.owned j false o hj (by rw [← e]; exact a))]; exact d
theorem Rep.unguard {u : HO} (R : Rep T (F.guard p u) ρ C σ H) (nt : ∀ xs, u ≠ .tup xs) (no : NoTb u) (f0 : F.H0 p = none) (c0 : F.C0 p = none) (hr : ∀ q ∈ F.refs, q.2 ≠ p) : Rep T F ρ C σ H ∧ H p = some u ∧ Fresh F ρ C σ p := by
  have hp : H p = some u := R.keep p u (show upd F.H0 p u p = some u from upd_same) no hr
  have cp : C p = none := by
    cases q : C p with
    | none => rfl
    | some o =>
      rcases R.new p o q c0 with this | ⟨xs, rfl⟩
      · rw [show (F.guard p u).H0 p = some u from upd_same] at this; cases this
      · have := R.sub _ _ q
        rw [hp] at this
        exact absurd (Option.some.inj this) (nt xs)
  have ne : ∀ b o, F.H0 b = some o → b ≠ p := fun b o k e => by rw [e, f0] at k; cases k
  have low : ∀ b, upd F.H0 p u b = none → F.H0 b = none := fun b k => by
    by_cases e : b = p
    · rw [e]; exact f0
    · rw [upd_ne e] at k; exact k
  refine ⟨⟨R.c0, R.sub, fun b o k nk h => R.keep b o (show upd F.H0 p u b = some o by rw [upd_ne (ne b o k)]; exact k) nk h, fun b ps k => R.tbl b ps (show upd F.H0 p u b = some _ by rw [upd_ne (ne b _ k)]; exact k), R.htb, R.ctab, R.tabs, fun b o k k0 => (R.new b o k k0).imp (low b) id, R.refd, R.sys, R.len, fun j s hj => ?_, R.apart⟩, hp, cp, f0, fun j r o hj hv => ?_⟩
  · have hs := R.slot j s hj
    cases s with
    | un => trivial
    | val d => exact hs
    | scr ns => exact hs
    | exc c d => exact hs
    | fnc f c q σc vs => exact hs
    | own r o =>
      obtain ⟨q, a, b, c, d⟩ := hs
      refine ⟨q, a, b, c, ?_⟩
      cases r with
      | true => exact d
      | false => exact low q d
  · obtain ⟨q, a, b, c, d⟩ := R.slot j _ hj
    rw [hv] at a; cases a
    cases r with
    | true => exact hr _ d rfl
    | false =>
      rw [show (F.guard p u).H0 p = some u from upd_same] at d; cases d
theorem Rep.ref_ne (R : Rep T F ρ C σ H) (h : H p = none) : ∀ q ∈ F.refs, q.2 ≠ p := fun q hq e => by
  obtain ⟨o, ho⟩ := R.refd q hq
  rw [e, h] at ho; cases ho
theorem Rep.c0_none (R : Rep T F ρ C σ H) (h : C p = none) : F.C0 p = none := sub_none R.c0 h
end

/-- an expression that makes a new own thing -/
abbrev QF := Ro → (Own → Ro → Prop) → Prop
def liftF (T : PK) (q : QF) : TE := fun σ H Q => ∃ F ρ C, Rep T F ρ C σ H ∧ ∃ κ, q ρ κ ∧ ∀ o ρ' p C' H', κ o ρ' → Same C C' → Rep T F ρ' C' σ H' → OwnAt T C' H' p o → Fresh F ρ' C' σ p → (∀ q ∈ F.refs, q.2 ≠ p) → Q (.ref p) H'
abbrev PQF (τ : Tb) (X : Cx) (e : Expr) (q : QF) : Prop := PE X e (liftF (X.pk τ) q)
section
variable {X : Cx} {τ : Tb} {pos : Pos}
def qfList (q : QA) : QF := fun ρ κ => q ρ fun ds ρ1 => κ (.lst ds) ρ1
theorem qf_list {es : List Expr} {n : Nat} {q : QA} (h : PQN τ X es n q) (hn : n ≤ 1000 := by decide) : PQF τ X (.List es pos) (qfList q) := by
  refine pe_imp _ (pe_lst h) ?_
  rintro σ H Q ⟨F, ρ, C, R, κ, k, z⟩
  refine ⟨F, ρ, C, R, _, k, fun ds ρ1 vs C1 H1 k1 s1 R1 d1 hl => ⟨?_, fun p np => ?_⟩⟩
  · rw [d1.length, hl]; exact Nat.le_trans hn (by rw [sizeLine_eq]; decide)
  · exact z _ _ _ _ _ k1 s1 (R1.layH np) ⟨vs, upd_same, d1⟩ (R1.new_fresh np) (R1.ref_ne np)
end

/-! ### statements -/
section
variable {X : Cx} {τ : Tb} {st : Stmt} {rest : List Stmt} {t u : QS} {e : Expr} {q : QE} {pos : Pos}
def qNext : QS := fun κ ρ => κ.nx ρ
def qSeq (t u : QS) : QS := fun κ ρ => t { κ with nx := u κ } ρ
theorem qss_nil : PQSs τ X [] qNext := by
  refine pss_imp _ pss_nil ?_
  rintro D σ H ⟨F, ρ, C, R, κ, k, z, _⟩
  exact z _ _ _ _ k (same_refl _) R
theorem qss_cons (h1 : PQS τ X st t) (h2 : PQSs τ X rest u) : PQSs τ X (st :: rest) (qSeq t u) := by
  refine pss_imp _ (pss_cons h1 h2) ?_
  rintro D σ H ⟨F, ρ, C, R, κ, k, z1, z2, z3, z4⟩
  exact ⟨F, ρ, C, R, _, k, fun ρ1 C1 σ1 H1 k1 s1 R1 => ⟨F, ρ1, C1, R1, κ, k1, fun ρ2 C2 σ2 H2 k2 s2 R2 => z1 _ _ _ _ k2 (same_trans s1 s2) R2, fun d ρ2 v C2 σ2 H2 k2 s2 R2 d2 => z2 _ _ _ _ _ _ k2 (same_trans s1 s2) R2 d2,
    fun ρ2 C2 σ2 H2 k2 s2 R2 => z3 _ _ _ _ k2 (same_trans s1 s2) R2, fun ρ2 C2 σ2 H2 k2 s2 R2 => z4 _ _ _ _ k2 (same_trans s1 s2) R2⟩, z2, z3, z4⟩
theorem qss_one (h1 : PQS τ X st t) : PQSs τ X [st] t := pss_one h1
def qDrop (q : QE) : QS := fun κ ρ => q ρ fun _ ρ1 => κ.nx ρ1
theorem qs_expr (h : PQ τ X e q) (hs : swapsWith e none pos.line X.env = pure false := by rfl) : PQS τ X (.Expr e pos) (qDrop q) := by
  refine ps_imp _ (ps_expr h hs) ?_
  rintro D σ H ⟨F, ρ, C, R, κ, k, z, _⟩
  exact ⟨F, ρ, C, R, _, k, fun d ρ1 v C1 H1 k1 s1 R1 d1 => z _ _ _ _ k1 s1 R1⟩
def qRet (q : QE) : QS := fun κ ρ => q ρ κ.rt
theorem qs_ret (h : PQ τ X e q) : PQS τ X (.Return (some e) pos) (qRet q) := by
  refine ps_imp _ (ps_ret h) ?_
  rintro D σ H ⟨F, ρ, C, R, κ, k, _, z, _⟩
  exact ⟨F, ρ, C, R, _, k, fun d ρ1 v C1 H1 k1 s1 R1 d1 => z _ _ _ _ _ _ k1 s1 R1 d1⟩
def qIfS (c : QT) (t u : QS) : QS := fun κ ρ => c ρ fun b ρ1 => yn b (t κ ρ1) (u κ ρ1)
theorem qs_if {c : Expr} {a b : List Stmt} {qc : QT} (hc : PQT τ X c qc) (ha : PQSs τ X a t) (hb : PQSs τ X b u) : PQS τ X (.If c a b pos) (qIfS qc t u) := by
  refine ps_imp _ (ps_if hc ha hb) ?_
  rintro D σ H ⟨F, ρ, C, R, κ, k, z1, z2, z3, z4⟩
  refine ⟨F, ρ, C, R, _, k, fun b ρ1 C1 H1 k1 s1 R1 => ?_⟩
  have go : ∀ {w : QS}, w κ ρ1 → liftS (X.pk τ) w D σ H1 := fun {w} k1 => ⟨F, ρ1, C1, R1, κ, k1, fun ρ2 C2 σ2 H2 k2 s2 R2 => z1 _ _ _ _ k2 (same_trans s1 s2) R2, fun d ρ2 v C2 σ2 H2 k2 s2 R2 d2 => z2 _ _ _ _ _ _ k2 (same_trans s1 s2) R2 d2,
    fun ρ2 C2 σ2 H2 k2 s2 R2 => z3 _ _ _ _ k2 (same_trans s1 s2) R2, fun ρ2 C2 σ2 H2 k2 s2 R2 => z4 _ _ _ _ k2 (same_trans s1 s2) R2⟩
  cases b with
  | true => exact go k1
  | false => exact go k1
def qSet (i : Nat) (q : QE) : QS := fun κ ρ => q ρ fun d ρ1 => κ.nx (ρ1.set i (.val d))
theorem set_imp {i : Nat} : ∀ D σ H, liftS (X.pk τ) (qSet i q) D σ H → tAsg (liftE (X.pk τ) q) (gName i) D σ H := by
  rintro D σ H ⟨F, ρ, C, R, κ, k, z, _⟩
  exact ⟨F, ρ, C, R, _, k, fun d ρ1 v C1 H1 k1 s1 R1 d1 => z _ _ _ _ k1 s1 (R1.setVal d1)⟩
theorem qs_set {i : Nat} {x : Str} {pos' : Pos} (hN : X.N.Nodup) (hi : X.N[i]? = some x) (hx : Loc X.env.scope x) (h : PQ τ X e q) (hs : swapsWith e (some (.Name x pos')) pos.line X.env = pure false := by rfl) (hf : X.fn x = true ∨ X.env.scope.names.lookup x = some .local := by first | exact .inl rfl | exact .inr rfl | assumption) :
    PQS τ X (.Assign [.Name x pos'] e pos) (qSet i q) := ps_imp _ (ps_set hN hi hx h hs hf) set_imp
def qSetO (i : Nat) (q : QF) : QS := fun κ ρ => q ρ fun o ρ1 => κ.nx (ρ1.set i (.own false o))
theorem setO_imp {i : Nat} {q : QF} : ∀ D σ H, liftS (X.pk τ) (qSetO i q) D σ H → tAsg (liftF (X.pk τ) q) (gName i) D σ H := by
  rintro D σ H ⟨F, ρ, C, R, κ, k, z, _⟩
  refine ⟨F, ρ, C, R, _, k, fun o ρ1 p C1 H1 k1 s1 R1 w1 f1 _ => z _ _ _ _ k1 s1 ?_⟩
  exact R1.setOwn f1.core f1.start w1 fun j r' o' _ hj hv => f1.owned j r' o' hj hv
theorem qs_setO {i : Nat} {x : Str} {q : QF} {pos' : Pos} (hN : X.N.Nodup) (hi : X.N[i]? = some x) (hx : Loc X.env.scope x) (h : PQF τ X e q) (hs : swapsWith e (some (.Name x pos')) pos.line X.env = pure false := by rfl) (hf : X.fn x = true ∨ X.env.scope.names.lookup x = some .local := by first | exact .inl rfl | exact .inr rfl | assumption) :
    PQS τ X (.Assign [.Name x pos'] e pos) (qSetO i q) := ps_imp _ (ps_set hN hi hx h hs hf) setO_imp

/-! ### targets -/
/-- storing data -/
abbrev QG := PyData → Ro → (Ro → Prop) → Prop
def liftG (T : PK) (g : QG) : TG := fun v σ H Q => ∃ F ρ C d, Rep T F ρ C σ H ∧ Da T.w C v d ∧ ∃ κ, g d ρ κ ∧ ∀ ρ' C' σ' H', κ ρ' → Same C C' → Rep T F ρ' C' σ' H' → Q σ' H'
abbrev PQG (τ : Tb) (X : Cx) (e : Expr) (g : QG) : Prop := PG X e (liftG (X.pk τ) g)
theorem pg_imp {t t' : TG} (p : PG X e t) (h : ∀ v σ H Q, t' v σ H Q → t v σ H Q) : PG X e t' := ⟨fun pins s σ H v u Q I r q => p.run pins s σ H v u Q I r (h _ _ _ _ q)⟩
def gN (i : Nat) : QG := fun d ρ κ => κ (ρ.set i (.val d))
theorem qg_name {i : Nat} {x : Str} (hN : X.N.Nodup) (hi : X.N[i]? = some x) (hx : Loc X.env.scope x) (hf : X.fn x = true ∨ X.env.scope.names.lookup x = some .local := by first | exact .inl rfl | exact .inr rfl | assumption) : PQG τ X (.Name x pos) (gN i) := by
  refine pg_imp (pg_name hN hi hx hf) ?_
  rintro v σ H Q ⟨F, ρ, C, d, R, hd, κ, k, z⟩
  exact z _ _ _ _ k (same_refl _) (R.setVal hd)
abbrev QGs := List PyData → Ro → (Ro → Prop) → Prop
def liftGs (T : PK) (g : QGs) : TGs := fun vs σ H Q => ∃ F ρ C ds, Rep T F ρ C σ H ∧ DaAll T.w C vs ds ∧ ∃ κ, g ds ρ κ ∧ ∀ ρ' C' σ' H', κ ρ' → Same C C' → Rep T F ρ' C' σ' H' → Q σ' H'
abbrev PQGs (τ : Tb) (X : Cx) (es : List Expr) (g : QGs) : Prop := PGs X es (liftGs (X.pk τ) g)
theorem pgs_imp {es : List Expr} {t t' : TGs} (p : PGs X es t) (h : ∀ v σ H Q, t' v σ H Q → t v σ H Q) : PGs X es t' := ⟨fun pins s σ H v u Q I r q => p.run pins s σ H v u Q I r (h _ _ _ _ q)⟩
def gsNil : QGs := fun ds ρ κ => match ds with
  | [] => κ ρ
  | _ => False
def gsCons (g : QG) (r : QGs) : QGs := fun ds ρ κ => match ds with
  | d :: ds => g d ρ fun ρ1 => r ds ρ1 κ
  | [] => False
theorem qgs_nil : PQGs τ X [] gsNil := by
  refine pgs_imp pgs_nil ?_
  rintro vs σ H Q ⟨F, ρ, C, ds, R, hd, κ, k, z⟩
  cases hd with
  | nil => exact ⟨rfl, z _ _ _ _ k (same_refl _) R⟩
  | cons => exact False.elim k
theorem qgs_cons {es : List Expr} {g : QG} {r : QGs} (h1 : PQG τ X e g) (h2 : PQGs τ X es r) (hs : (assignEach (e :: es) X.env).map (·.2) = assign e X.env :: (assignEach es X.env).map (·.2) := by rfl) : PQGs τ X (e :: es) (gsCons g r) := by
  refine pgs_imp (pgs_cons h1 h2 hs) ?_
  rintro vs σ H Q ⟨F, ρ, C, ds, R, hd, κ, k, z⟩
  cases hd with
  | nil => exact False.elim k
  | cons a t =>
    exact ⟨_, _, rfl, F, ρ, C, _, R, a, _, k, fun ρ1 C1 σ1 H1 k1 s1 R1 => ⟨F, ρ1, C1, _, R1, t.mono s1, κ, k1, fun ρ2 C2 σ2 H2 k2 s2 R2 => z _ _ _ _ k2 (same_trans s1 s2) R2⟩⟩
def gTup' (g : QGs) : QG := fun d ρ κ => match d with
  | .tuple ds => g ds ρ κ
  | _ => False
/-- the targets want so many items -/
structure GLen (g : QGs) (n : Nat) : Prop where
  len : ∀ ds ρ κ, g ds ρ κ → ds.length = n
theorem glen_nil : GLen gsNil 0 := ⟨fun ds ρ κ h => by cases ds with | nil => rfl | cons => exact False.elim h⟩
theorem glen_name {i : Nat} {r : QGs} {n : Nat} (h : GLen r n) : GLen (gsCons (gN i) r) (n + 1) := ⟨fun ds ρ κ k => by
  cases ds with
  | nil => exact False.elim k
  | cons d ds => rw [List.length_cons, h.len ds _ _ k]⟩
theorem qg_tup {es : List Expr} {k : Nat} {g : QGs} {n : Nat} (hc : X.calm = true) (h : PQGs τ X es g) (gl : GLen g n) (hn : (assignEach es X.env).length = n := by rfl) (hst : (assignEach es X.env).findIdx? (·.1) = none := by rfl) : PQG τ X (.Tuple es k pos) (gTup' g) := by
  refine pg_imp (pg_tup hc h hn hst) ?_
  rintro v σ H Q ⟨F, ρ, C, d, R, hd, κ, k, z⟩
  cases hd with
  | tup e _ ha => exact ⟨_, _, rfl, sqF (R.sub _ _ e), by rw [ha.length]; exact gl.len _ _ _ k, F, ρ, C, _, R, ha, κ, k, z⟩
  | _ => exact False.elim k
def qAsg (q : QE) (g : QG) : QS := fun κ ρ => q ρ fun d ρ1 => g d ρ1 κ.nx
theorem qs_asg {tg : Expr} {g : QG} (h : PQ τ X e q) (hg : PQG τ X tg g) (hs : swapsWithSole [tg] e pos.line X.env = pure false := by rfl) (hw : swappedStores [tg] e X.env = pure none := by rfl) (h1 : (assignEach [tg] X.env).map (·.2) = [assign tg X.env] := by rfl) : PQS τ X (.Assign [tg] e pos) (qAsg q g) := by
  refine ps_imp _ (ps_asg h hg hs hw h1) ?_
  rintro D σ H ⟨F, ρ, C, R, κ, k, z, _⟩
  exact ⟨F, ρ, C, R, _, k, fun d ρ1 v C1 H1 k1 s1 R1 d1 => ⟨F, ρ1, C1, d, R1, d1, κ.nx, k1, fun ρ2 C2 σ2 H2 k2 s2 R2 => z _ _ _ _ k2 (same_trans s1 s2) R2⟩⟩
end

/-! ### loops -/
section
variable {X : Cx} {τ : Tb} {pos : Pos}
def qWhile (c : QT) (tb : QS) : QS := fun κ ρ => ∃ W : Nat → Ro → Prop, (∃ m, W m ρ) ∧ ∀ m ρ, W m ρ →
  c ρ fun b ρ1 => yn b (∃ N : Ro → Prop, (∀ ρ', N ρ' → ∃ m', m' < m ∧ W m' ρ') ∧ tb { κ with nx := N, ct := N, bk := κ.nx } ρ1) (κ.nx ρ1)
theorem qs_while {c : Expr} {body : List Stmt} {qc : QT} {tb : QS} (hp : PassesOwn (model X.prog X.w) X.A X.env X.xe) (hc : PQT τ X c qc) (hb : PQSs τ X body tb) : PQS τ X (.While c body [] pos) (qWhile qc tb) := by
  refine ps_imp _ (ps_while hp hc hb) ?_
  rintro D σ H ⟨F, ρ, C, R, κ, ⟨W, ⟨m, w⟩, turn⟩, z1, z2, z3, z4⟩
  refine ⟨fun m σ H => ∃ ρ1 C1, Same C C1 ∧ Rep (X.pk τ) F ρ1 C1 σ H ∧ W m ρ1, ⟨m, ρ, C, same_refl _, R, w⟩, ?_⟩
  rintro m σ H ⟨ρ1, C1, s1, R1, w1⟩
  refine ⟨F, ρ1, C1, R1, _, turn m ρ1 w1, fun b ρ2 C2 H2 k2 s2 R2 => ?_⟩
  have s12 := same_trans s1 s2
  cases b with
  | false => exact z1 _ _ _ _ k2 s12 R2
  | true =>
    obtain ⟨N, hN, k2⟩ := k2
    refine ⟨fun σ' H' => ∃ ρ3 C3, Same C C3 ∧ Rep (X.pk τ) F ρ3 C3 σ' H' ∧ N ρ3, ?_, F, ρ2, C2, R2, _, k2, ?_, ?_, ?_, ?_⟩
    · rintro σ' H' ⟨ρ3, C3, s3, R3, n3⟩
      obtain ⟨m', hm, w3⟩ := hN ρ3 n3
      exact ⟨m', hm, ρ3, C3, s3, R3, w3⟩
    · exact fun ρ3 C3 σ3 H3 k3 s3 R3 => ⟨ρ3, C3, same_trans s12 s3, R3, k3⟩
    · exact fun d ρ3 v C3 σ3 H3 k3 s3 R3 d3 => z2 _ _ _ _ _ _ k3 (same_trans s12 s3) R3 d3
    · exact fun ρ3 C3 σ3 H3 k3 s3 R3 => z1 _ _ _ _ k3 (same_trans s12 s3) R3
    · exact fun ρ3 C3 σ3 H3 k3 s3 R3 => ⟨ρ3, C3, same_trans s12 s3, R3, k3⟩
/-- over a list of things -/
def forL (g : QG) (tb : QS) (κ : Qn) : List PyData → Ro → Prop
  | [], ρ => κ.nx ρ
  | d :: ds, ρ => ∃ N : Ro → Prop, (∀ ρ', N ρ' → forL g tb κ ds ρ') ∧ g d ρ fun ρ1 => tb { κ with nx := N, ct := N, bk := κ.nx } ρ1
theorem forL_by {g : QG} {tb : QS} {κ : Qn} (I : List PyData → Ro → Prop) (h0 : ∀ ρ, I [] ρ → κ.nx ρ) (hs : ∀ d ds ρ, I (d :: ds) ρ → g d ρ fun ρ1 => tb { κ with nx := I ds, ct := I ds, bk := κ.nx } ρ1) : ∀ ds ρ, I ds ρ → forL g tb κ ds ρ
  | [], ρ, h => h0 ρ h
  | d :: ds, ρ, h => ⟨I ds, fun ρ' h' => forL_by I h0 hs ds ρ' h', hs d ds ρ h⟩
/-- what is walked: its items -/
abbrev QI := Ro → (List PyData → Ro → Prop) → Prop
/-- an iterator J that goes through ds -/
structure Walks (T : PK) (J : It) (C : Hp) (ds : List PyData) : Prop where
  go : ∀ (i : Nat) (C' H : Hp), Same C C' → Same C' H → i < ds.length → J.go i H
  yld : ∀ (i : Nat) (F : Fm) (ρ : Ro) (C' : Hp) (σ : St) (H : Hp) (x : V) (H' : Hp), Rep T F ρ C' σ H → Same C C' → J.yld i H x H' → i < ds.length → ∃ d C2, ds[i]? = some d ∧ Same C' C2 ∧ Rep T F ρ C2 σ H' ∧ Da T.w C2 x d
  stop : ∀ (i : Nat) (C' H : Hp), Same C C' → Same C' H → ds.length ≤ i → J.stop i H
  few : ds.length ≤ sizeLine
def liftI (T : PK) (q : QI) : TI := fun σ H R => ∃ F ρ C, Rep T F ρ C σ H ∧ ∃ κ, q ρ κ ∧ ∀ ds ρ' C' H' J, κ ds ρ' → Same C C' → Rep T F ρ' C' σ H' → Walks T J C' ds → R J H'
abbrev PQI (τ : Tb) (X : Cx) (tg iter : Expr) (q : QI) : Prop := PI X tg iter (liftI (X.pk τ) q)
theorem pi_imp {tg iter : Expr} {t t' : TI} (p : PI X tg iter t) (h : ∀ σ H R, t' σ H R → t σ H R) : PI X tg iter t' := ⟨fun pins s σ H R I q => p.run pins s σ H R I (h _ _ _ q)⟩
def qFor (qi : QI) (g : QG) (tb : QS) : QS := fun κ ρ => qi ρ fun ds ρ1 => forL g tb κ ds ρ1
theorem qs_for {tg iter : Expr} {body : List Stmt} {qi : QI} {g : QG} {tb : QS} (hp : PassesOwn (model X.prog X.w) X.A X.env X.xe) (hc : X.calm = true) (hi : PQI τ X tg iter qi) (hg : PQG τ X tg g) (hb : PQSs τ X body tb)
    (hs : ∀ x, foldedSetIterable iter X.env x = pure x := by intro _; rfl) : PQS τ X (.For tg iter body [] pos) (qFor qi g tb) := by
  refine ps_imp _ (ps_for hp hc hi hg hb hs) ?_
  rintro D σ H ⟨F, ρ, C, R, κ, k, z1, z2, z3, z4⟩
  refine ⟨F, ρ, C, R, _, k, fun ds ρ1 C1 H1 J k1 s1 R1 wk => ?_⟩
  refine ⟨fun i m σ' H' => m + i = ds.length ∧ ∃ ρ2 C2, Same C1 C2 ∧ Rep (X.pk τ) F ρ2 C2 σ' H' ∧ forL g tb κ (ds.drop i) ρ2, ⟨ds.length, rfl, ρ1, C1, same_refl _, R1, k1⟩, ?_⟩
  rintro i m σ' H' ⟨hm, ρ2, C2, s2, R2, k2⟩
  by_cases lt : i < ds.length
  · have hd : ds.drop i = ds[i]'(by omega) :: ds.drop (i + 1) := List.drop_eq_getElem_cons (by omega)
    rw [hd] at k2
    obtain ⟨N, hN, k2⟩ := k2
    refine .inr ⟨wk.go i C2 H' s2 R2.sub lt, fun σ3 H3 => ∃ ρ3 C3, Same C1 C3 ∧ Rep (X.pk τ) F ρ3 C3 σ3 H3 ∧ N ρ3, ?_, ?_⟩
    · rintro σ3 H3 ⟨ρ3, C3, s3, R3, n3⟩
      exact ⟨m - 1, by omega, by omega, ρ3, C3, s3, R3, hN ρ3 n3⟩
    · intro x H3 hy
      obtain ⟨d, C3, hd1, s3, R3, hd2⟩ := wk.yld i F ρ2 C2 σ' H' x H3 R2 s2 hy lt
      have : ds[i]'(by omega) = d := by
        rw [List.getElem?_eq_getElem (by omega)] at hd1; exact Option.some.inj hd1
      rw [this] at k2
      refine ⟨F, ρ2, C3, d, R3, hd2, _, k2, fun ρ4 C4 σ4 H4 k4 s4 R4 => ?_⟩
      have s24 := same_trans s2 (same_trans s3 s4)
      refine ⟨F, ρ4, C4, R4, _, k4, ?_, ?_, ?_, ?_⟩
      · exact fun ρ5 C5 σ5 H5 k5 s5 R5 => ⟨ρ5, C5, same_trans s24 s5, R5, k5⟩
      · exact fun e ρ5 v C5 σ5 H5 k5 s5 R5 d5 => z2 _ _ _ _ _ _ k5 (same_trans s1 (same_trans s24 s5)) R5 d5
      · exact fun ρ5 C5 σ5 H5 k5 s5 R5 => z1 _ _ _ _ k5 (same_trans s1 (same_trans s24 s5)) R5
      · exact fun ρ5 C5 σ5 H5 k5 s5 R5 => ⟨ρ5, C5, same_trans s24 s5, R5, k5⟩
  · have e : i = ds.length := by omega
    refine .inl ⟨wk.stop i C2 H' s2 R2.sub (by omega), ?_⟩
    rw [List.drop_eq_nil_of_le (by omega)] at k2
    exact z1 _ _ _ _ k2 (same_trans s1 s2) R2
/-! ### what is walked -/
def signs (x : Str) : List PyData := x.cps.toList.map fun c => .str ⟨#[c]⟩
def qIt (q : QE) : QI := fun ρ κ => q ρ fun d ρ1 => match d with
  | .list ds => κ ds ρ1
  | .tuple ds => κ ds ρ1
  | .str x => x.length ≤ 16000000 ∧ κ (signs x) ρ1
  | .dict kvs => κ (kvs.map (·.1)) ρ1
  | _ => False
/-- the keys of a dict whose keys are tuples of texts -/
def Itz (d : Addr) (o : Obj) (u : HO) (zs : List (List Str × Addr × V)) : It :=
  ⟨fun i G => G d = some (.frz o u) ∧ i < zs.length, fun i G y G' => G' = G ∧ ∃ z, zs[i]? = some z ∧ y = .ref z.2.1, fun i G => G d = some (.frz o u) ∧ zs.length ≤ i⟩
theorem DT.entry {w : World} {d : Addr} {o : Obj} {zs : List (List Str × Addr × V)} (t : DT w d o zs) : ∃ (es : Array DictEntry) (ep : Nat), o.data = .dict es ep ∧ es.size = zs.length ∧ ∀ (i : Nat) (z : List Str × Addr × V), zs[i]? = some z → ∃ en : DictEntry, es[i]? = some en ∧ en.key = .ref z.2.1 := by
  obtain ⟨es, ep, xs, h1, pr, h3⟩ := t.ents
  have l1 : zs.length = xs.length := Paired.length pr
  have l2 : es.size = xs.length := by rw [← Array.length_toList, h3, List.length_map]
  refine ⟨es, ep, h1, by omega, fun i z hz => ?_⟩
  obtain ⟨b, hb, e1, e2, _⟩ := paired_get pr hz
  refine ⟨⟨tHash w b.1, .ref b.2.1, b.2.2⟩, ?_, by rw [← e2]⟩
  rw [← Array.getElem?_toList, h3, List.getElem?_map, hb]; rfl
theorem turnZ {P : Program} {w v : World} {K : PySem.W.Frag} {tg : Expr} {d : Addr} {o : Obj} {u : HO} {zs : List (List Str × Addr × V)} {es : Array DictEntry} {ep : Nat} (t : DT v d o zs) (j : Addr) (data : o.data = .dict es ep) : Turn P w K tg (Itz d o u zs) [j] j (fun i h => h.IsKeyIter j d i zs.length ep) where
  mem := List.mem_cons_self
  obj := fun i h st b hb => by
    cases List.mem_singleton.mp hb
    obtain ⟨oj, e, _, dd⟩ := st
    exact ⟨oj, e, fun _ z => by rw [dd] at z; cases z⟩
  keep := fun i h h' st kp => st.at fun oj e => kp j List.mem_cons_self oj e
  item := by
    intro X hP hw hK hc i pins s σ G E I hf st go
    subst hP hw hK
    obtain ⟨g0, g1, _, g3, g4, g5⟩ := hf j List.mem_cons_self
    obtain ⟨es', ep', hdt, hsz, ent⟩ := t.entry
    obtain ⟨rfl, rfl⟩ := dict_ep data hdt
    have lt : i < zs.length := go.2
    obtain ⟨zi, hz⟩ : ∃ zi, zs[i]? = some zi := ⟨zs[i], List.getElem?_eq_getElem lt⟩
    obtain ⟨en, hen, hkey⟩ := ent i _ hz
    refine next_key_item st (I.hok d _ go.1).1 hdt hsz hen fun h' st' sb => ?_
    have J : Inv X pins σ G { s with heap := h' } := I.turned (t' := s.toks) (fun b _ nb e => (sb.2 b nb).trans e) g0 g1 g3 g4 g5
    obtain ⟨oj, e, c, dd⟩ := id st'
    exact ⟨en.key, rfl, go_of (s := { s with heap := h' }) e c dd (by decide) ⟨.ref zi.2.1, G, J, hkey, ⟨rfl, _, hz, rfl⟩, st', fun b hb => (hf b hb).1⟩⟩
  done := by
    intro X hP hw hK hc i pins s σ G E I hf st stop
    subst hP hw hK
    obtain ⟨g0, g1, _, g3, g4, g5⟩ := hf j List.mem_cons_self
    obtain ⟨es', ep', hdt, hsz, _⟩ := t.entry
    obtain ⟨rfl, rfl⟩ := dict_ep data hdt
    exact next_key_end (I.ok.hd hc) st (I.hok d _ stop.1).1 hdt hsz stop.2 fun h' eb => ⟨rfl, I.turned (t' := s.toks) (fun b _ nb e => eb b _ nb e) g0 g1 g3 g4 g5⟩
  self := fun A i s Q E st h => wpAny_pyIter_keyiter st h
/-- a list, a tuple, a text, the keys of a locked dict -/
def iAny (K : PySem.W.Frag) (tl : TE) : TI := fun σ H R => tl σ H fun x H1 => (∃ a xs, x = .ref a ∧ SqL K H1 a xs ∧ (xs.length ≤ sizeLine → R (Itl K a) H1)) ∨ (∃ a xs, x = .ref a ∧ SqT K H1 a xs ∧ (xs.length ≤ sizeLine → R (Itt K a) H1)) ∨ (∃ y, x = .str y ∧ R (Its y) H1) ∨
  (∃ d o kvs, x = .ref d ∧ H1 d = some (.frz o (.dK kvs)) ∧ (kvs.length ≤ sizeLine → R (Itk d o kvs) H1)) ∨ ∃ v d o u zs, x = .ref d ∧ H1 d = some (.frz o u) ∧ DT v d o zs ∧ R (Itz d o u zs) H1
theorem pi_any {tg l : Expr} {tl : TE} (hl : PE X l tl) : PI X tg l (iAny X.K tl) := by
  refine ⟨fun pins s σ H R I h => thn (hl.run pins s σ H _ I h) fun v s1 g => ?_⟩
  obtain ⟨x, H1, I1, r1, g⟩ := g
  have grow : ∀ (ob : Obj), Inv X pins σ H1 { s1 with heap := s1.heap.push ob, toks := s1.toks } := fun ob => I1.kept fun _ _ e => Heap.get?_push_of_some _ e
  have alone : ∀ b ∈ [s1.heap.objs.size], FpOk X pins H1 b := fun b hb => by
    rw [List.mem_singleton.mp hb]; exact I1.fpOk (Nat.le_refl _) (I1.hok.fresh (Nat.le_refl _))
  rcases g with ⟨a, xs, rfl, sq, q⟩ | ⟨a, xs, rfl, sq, q⟩ | ⟨y, rfl, q⟩ | ⟨d, o, kvs, rfl, fd, q⟩ | ⟨w', d, o, u, zs, rfl, fd, dt, q⟩
  · obtain rfl : v = Value.ref a := r1
    obtain ⟨us, _, pl, z⟩ := I1.list sq
    exact wpAny_pyIter_list pl.isList ⟨_, _, _, _, H1, rfl, grow _, turn_list a _, ⟨_, Heap.get?_push_size _ rfl, rfl, rfl⟩, alone, q z⟩
  · obtain rfl : v = Value.ref a := r1
    obtain ⟨us, _, pl, z⟩ := I1.tuple sq
    exact wpAny_pyIter_tuple (show s1.heap.IsTuple a us.toArray from pl) ⟨_, _, _, _, H1, rfl, grow _, turn_tuple a _, ⟨_, Heap.get?_push_size _ rfl, rfl, rfl⟩, alone, q z⟩
  · obtain ⟨t, rfl⟩ := r1
    rcases wide : y.cps.all (· < 128) with _ | _
    · exact wpAny_pyIter_wide wide (pi_one (tk := s1.toks) I1 _ (turn_str _ y t "str_iterator" (.inr rfl)) ⟨_, Heap.get?_push_size _ rfl, rfl, rfl⟩ q)
    · exact wpAny_pyIter_ascii wide (pi_one (tk := s1.toks) I1 _ (turn_str _ y t "str_ascii_iterator" (.inl rfl)) ⟨_, Heap.get?_push_size _ rfl, rfl, rfl⟩ q)
  · obtain rfl : v = Value.ref d := r1
    obtain ⟨hs, hgd, hx, es, ep, vs, hdt, hsz, kv, hm⟩ := I1.frzK fd
    have it : (s1.heap.push { cls := .type "dict_keyiterator", data := .fields #[.ref d, .int 0 0, .int es.size 0, .int ep 0] }).IsKeyIter s1.heap.objs.size d 0 kvs.length ep := ⟨_, Heap.get?_push_size _ rfl, rfl, by rw [hsz] <;> rfl⟩
    exact iter_keys hs hgd hx hdt (pi_one (tk := s1.toks) I1 _ (turn_keys _ hdt) it (q (I1.hok d _ fd).2.1))
  · obtain rfl : v = Value.ref d := r1
    obtain ⟨es, ep, hdt, hsz, _⟩ := dt.entry
    have it : (s1.heap.push { cls := .type "dict_keyiterator", data := .fields #[.ref d, .int 0 0, .int es.size 0, .int ep 0] }).IsKeyIter s1.heap.objs.size d 0 zs.length ep := ⟨_, Heap.get?_push_size _ rfl, rfl, by rw [hsz] <;> rfl⟩
    exact iter_keys dt.sys (I1.hok d _ fd).1 dt.ex hdt (pi_one (tk := s1.toks) I1 _ (turnZ dt _ hdt) it q)
theorem walks_seq {T : PK} {J : It} {C : Hp} {vs : List V} {ds : List PyData} (hd : DaAll T.w C vs ds) (hz : vs.length ≤ sizeLine) (go : ∀ (i : Nat) (C' H : Hp), Same C C' → Same C' H → i < vs.length → J.go i H)
    (yld : ∀ (i : Nat) (C' H : Hp) (x : V) (H' : Hp), Same C C' → Same C' H → J.yld i H x H' → H' = H ∧ vs[i]? = some x) (stop : ∀ (i : Nat) (C' H : Hp), Same C C' → Same C' H → vs.length ≤ i → J.stop i H) : Walks T J C ds := by
  have hl := hd.length
  refine ⟨fun i C' H a b c => go i C' H a b (by omega), fun i F ρ C' σ H x H' R s hy lt => ?_, fun i C' H a b c => stop i C' H a b (by omega), by omega⟩
  obtain ⟨rfl, hx⟩ := yld i C' H x H' s R.sub hy
  obtain ⟨d, a, b⟩ := (hd.mono s).get hx
  exact ⟨d, C', a, same_refl _, R, b⟩
theorem keys_da {C : Hp} (k : Key) : Da w C (kV k) (keyD k) := by cases k with
  | inl i => exact .int i
  | inr x => exact .str x
theorem da_strs0 {w : World} {C : Hp} : ∀ r : List Str, DaAll w C (r.map V.str) (r.map PyData.str)
  | [] => .nil
  | x :: r => .cons (.str x) (da_strs0 r)
theorem it_imp {q : QE} : ∀ σ H R, liftI (X.pk τ) (qIt q) σ H R → iAny X.K (liftE (X.pk τ) q) σ H R := by
  rintro σ H R ⟨F, ρ, C, R0, κ, k, z⟩
  refine ⟨F, ρ, C, R0, _, k, fun d ρ1 v C1 H1 k1 s1 R1 d1 => ?_⟩
  cases d1 with
  | @lst a xs ds e n ha =>
    refine .inl ⟨a, xs, rfl, SqL.of (R1.sub _ _ e), fun hz => z ds ρ1 C1 H1 _ k1 s1 R1 (walks_seq ha hz ?_ ?_ ?_)⟩
    · exact fun i C' H s s' lt => ⟨xs, xs[i], SqL.of (s' _ _ (s _ _ e)), List.getElem?_eq_getElem lt⟩
    · exact fun i C' H x H' s s' ⟨e1, y⟩ => ⟨e1, y xs (SqL.of (s' _ _ (s _ _ e)))⟩
    · exact fun i C' H s s' le => ⟨xs, SqL.of (s' _ _ (s _ _ e)), le⟩
  | @tup a o xs ds e nd ha =>
    refine .inr (.inl ⟨a, xs, rfl, sqF (R1.sub _ _ e), fun hz => z ds ρ1 C1 H1 _ k1 s1 R1 (walks_seq ha hz ?_ ?_ ?_)⟩)
    · exact fun i C' H s s' lt => ⟨xs, xs[i], sqF (s' _ _ (s _ _ e)), List.getElem?_eq_getElem lt⟩
    · exact fun i C' H x H' s s' ⟨e1, y⟩ => ⟨e1, y xs (sqF (s' _ _ (s _ _ e)))⟩
    · exact fun i C' H s s' le => ⟨xs, sqF (s' _ _ (s _ _ e)), le⟩
  | str x =>
    refine .inr (.inr (.inl ⟨x, rfl, z _ ρ1 C1 H1 _ k1.2 s1 R1 ⟨fun i C' H s s' lt => ?_, fun i F ρ C' σ H y H' R s hy lt => ?_, fun i C' H s s' le => ?_, ?_⟩⟩))
    · show i < x.cps.size
      simpa [signs] using lt
    · obtain ⟨rfl, c, hc, rfl⟩ := hy
      refine ⟨.str ⟨#[c]⟩, C', ?_, same_refl _, R, .str _⟩
      rw [signs, List.getElem?_map, Array.getElem?_toList, hc]; rfl
    · show x.cps.size ≤ i
      simpa [signs] using le
    · have := line_le k1.1
      simpa [signs, Str.length] using this
  | @dic a o kvs es e hk ha =>
    have hl : kvs.length = es.length := by simpa using congrArg List.length hk
    refine .inr (.inr (.inr (.inl ⟨a, o, kvs, rfl, R1.sub _ _ e, fun hz => z _ ρ1 C1 H1 _ k1 s1 R1 ⟨fun i C' H s s' lt => ?_, fun i F ρ C' σ H y H' R s hy lt => ?_, fun i C' H s s' le => ?_, by simp; omega⟩⟩)))
    · exact ⟨s' _ _ (s _ _ e), by simp at lt; omega⟩
    · obtain ⟨rfl, k, v, hkv, rfl⟩ := hy
      refine ⟨keyD k, C', ?_, same_refl _, R, keys_da k⟩
      have : (es.map (·.1))[i]? = some k := by rw [← hk, List.getElem?_map, hkv]; rfl
      rw [List.map_map]
      show (es.map fun e => keyD e.1)[i]? = _
      rw [show (fun e : Key × PyData => keyD e.1) = keyD ∘ (·.1) from rfl, ← List.map_map, List.getElem?_map, this]; rfl
    · exact ⟨s' _ _ (s _ _ e), by simp at le; omega⟩
  | @dicT a o u zs rds e dt ks hk ne ha =>
    have hl : zs.length = rds.length := by simpa using congrArg List.length hk
    refine .inr (.inr (.inr (.inr ⟨_, a, o, u, zs, rfl, R1.sub _ _ e, dt, z _ ρ1 C1 H1 _ k1 s1 R1 ⟨fun i C' H s s' lt => ?_, fun i F ρ C' σ H y H' R s hy lt => ?_, fun i C' H s s' le => ?_, by have := dt.few; simp; omega⟩⟩)))
    · exact ⟨s' _ _ (s _ _ e), by simp at lt; omega⟩
    · obtain ⟨rfl, y', hz, rfl⟩ := hy
      obtain ⟨ob, h1, h2⟩ := ks y' (List.mem_of_getElem? hz)
      refine ⟨.tuple (y'.1.map PyData.str), C', ?_, same_refl _, R, .tup (s _ _ h1) h2 (da_strs0 _)⟩
      have : (rds.map (·.1))[i]? = some y'.1 := by rw [← hk, List.getElem?_map, hz]; rfl
      rw [List.map_map]
      show (rds.map fun e => PyData.tuple (e.1.map PyData.str))[i]? = _
      rw [show (fun e : List Str × PyData => PyData.tuple (e.1.map PyData.str)) = (fun r => PyData.tuple (r.map PyData.str)) ∘ (·.1) from rfl, ← List.map_map, List.getElem?_map, this]; rfl
    · exact ⟨s' _ _ (s _ _ e), by simp at le; omega⟩
  | _ => exact False.elim k1
theorem qi_any {tg l : Expr} {q : QE} (h : PQ τ X l q) : PQI τ X tg l (qIt q) := pi_imp (pi_any h) it_imp
/-- range(n), range(a, b) -/
def rngD (lo : Int) (n : Nat) : List PyData := (List.range n).map fun (i : Nat) => PyData.int (lo + (i : Int))
def qRng1 (q : QA) : QI := fun ρ κ => q ρ fun ds ρ1 => match ds with
  | [.int j] => -16000000 ≤ j ∧ j ≤ 16000000 ∧ κ (rngD 0 j.toNat) ρ1
  | _ => False
theorem walks_rng {T : PK} {C : Hp} {lo : Int} {n : Nat} (hn : n ≤ 16000000) : Walks T (Itr lo n) C (rngD lo n) := by
  have hl : (rngD lo n).length = n := by simp [rngD]
  refine ⟨fun i C' H _ _ lt => by rw [hl] at lt; exact lt, fun i F ρ C' σ H x H' R s hy lt => ?_, fun i C' H _ _ le => by rw [hl] at le; exact le, by rw [hl]; exact line_le hn⟩
  obtain ⟨rfl, rfl⟩ := hy
  rw [hl] at lt
  refine ⟨.int (lo + (i : Int)), C', ?_, same_refl _, R, .int _⟩
  simp [rngD, lt]
theorem qi_range1 {tg a : Expr} {n : Nat} {q : QA} {p : Pos} (hg : Gl X "range") (hm : X.mg "range" = none) (h : PQN τ X [a] n q) (hs : starEach [a] X.env = [(false, eval a X.env)] := by rfl) : PQI τ X tg (.Call (.Name "range" p) [a] [] pos) (qRng1 q) := by
  refine pi_imp (pi_range1 hg hm h hs) ?_
  rintro σ H R ⟨F, ρ, C, R0, κ, k, z⟩
  refine ⟨F, ρ, C, R0, _, k, fun ds ρ1 vs C1 H1 k1 s1 R1 d1 _ => ?_⟩
  cases d1 with
  | nil => exact False.elim k1
  | cons a t =>
    cases t with
    | cons => cases a <;> exact False.elim k1
    | nil =>
      cases a with
      | int j =>
        obtain ⟨k2, k3, k4⟩ := k1
        exact ⟨j, rfl, by omega, by omega, z _ _ _ _ _ k4 s1 R1 (walks_rng (by omega))⟩
      | _ => exact False.elim k1
end
end L2.Pu

set_option Elab.async false
set_option linter.all false
set_option maxRecDepth 100000
set_option maxHeartbeats 4000000
/-! ## Comprehensions -/
namespace L2.Pu
open PySem PySem.Spec PyProof.Rows
/-- the slots of a block's own names forgotten -/
def wipeR (ρ : Ro) : List Nat → Ro
  | [] => ρ
  | v :: vs => (wipeR ρ vs).set v .un
/-- .. and back: what was data is known again -/
def backR (ρ0 : Ro) (ρ : Ro) : List Nat → Ro
  | [] => ρ
  | v :: vs => match ρ0[v]? with
    | some (.val d) => (backR ρ0 ρ vs).set v (.val d)
    | _ => (backR ρ0 ρ vs).set v .un
section
variable {T : PK} {F : Fm} {ρ : Ro} {C : Hp} {σ : St} {H : Hp} {i : Nat} {p : Addr}
theorem Rep.wipe (R : Rep T F ρ C σ H) : ∀ vs, Rep T F (wipeR ρ vs) C (L2.wipe σ vs) H
  | [] => R
  | v :: vs => (R.wipe vs).forget none
/-- a fresh thing is changed -/
theorem Rep.writeF (R : Rep T F ρ C σ H) (f : Fresh F ρ C σ p) (hr : ∀ q ∈ F.refs, q.2 ≠ p) (nt : (∀ ps, H p ≠ some (.tbl ps)) ∧ ∀ q, H p ≠ some (LamX.CodeO p q)) (u : HO) (no : NoTb u := by intro _ z; cases z) : Rep T F ρ C σ (upd H p u) := by
  refine ⟨R.c0, same_off R.sub f.core, fun b v k nv h => ?_, R.tbl, fun b ps k => ?_, R.ctab, tabs_upd R.tabs nt, R.new, fun q hq => ?_, R.sys, R.len, fun j s hj => ?_, R.apart⟩
  · rw [upd_ne (ne_of_none k f.start)]; exact R.keep b v k nv h
  · by_cases hb : b = p
    · subst hb; rw [upd_same] at k; cases k; exact absurd rfl (no ps)
    · rw [upd_ne hb] at k; exact R.htb b ps k
  · rw [upd_ne (hr q hq)]; exact R.refd q hq
  · have hs := R.slot j s hj
    cases s with
    | un => trivial
    | val d => exact hs
    | scr ns => exact hs
    | exc c d => exact hs
    | fnc f c q σc vs => exact hs
    | own r o =>
      obtain ⟨q, a, b, c, d⟩ := hs
      have ne : q ≠ p := fun e => f.owned j r o hj (by rw [← e]; exact a)
      exact ⟨q, a, b, c.mono (same_refl _) (upd_ne ne), d⟩
/-- a fresh thing becomes data -/
theorem Rep.adopt (R : Rep T F ρ C σ H) (f : Fresh F ρ C σ p) {u : HO} (h : H p = some u) (no : NoTb u := by intro _ z; cases z) : Rep T F ρ (upd C p u) σ H := by
  refine ⟨same_trans R.c0 (same_new f.core), same_in R.sub h, R.keep, R.tbl, R.htb, fun b v k => ?_, R.tabs, fun b v k k0 => ?_, R.refd, ?_, R.len, fun j s hj => ?_, R.apart⟩
  · by_cases e : b = p
    · subst e; rw [upd_same] at k; cases k; exact no
    · rw [upd_ne e] at k; exact R.ctab b v k
  · by_cases e : b = p
    · subst e; exact .inl f.start
    · rw [upd_ne e] at k; exact R.new b v k k0
  · exact R.sys.mono (same_new f.core)
  · have hs := R.slot j s hj
    cases s with
    | un => trivial
    | val d => obtain ⟨x, a, b⟩ := hs; exact ⟨x, a, b.mono (same_new f.core)⟩
    | scr ns => obtain ⟨a, b, c⟩ := hs; exact ⟨a, b, SqL.mono' (same_new f.core) c⟩
    | exc c d => obtain ⟨a, dx, x, e1, e2, e3, e4⟩ := hs; exact ⟨a, dx, x, e1, same_new f.core _ _ e2, same_new f.core _ _ e3, e4.mono (same_new f.core)⟩
    | fnc f' c q σc vs => obtain ⟨e1, e2, e3, e4⟩ := hs; exact ⟨e1, (same_new f.core) _ _ e2, e3, fun i d e => let ⟨x, a, b⟩ := e4 i d e; ⟨x, a, b.mono (same_new f.core)⟩⟩
    | own r o =>
      obtain ⟨q, a, b, c, d⟩ := hs
      have ne : q ≠ p := fun e => f.owned j r o hj (by rw [← e]; exact a)
      exact ⟨q, a, by rw [upd_ne ne]; exact b, c.mono (same_new f.core) rfl, d⟩
theorem wipe_get {σ : St} : ∀ {vs : List Nat} {j : Nat}, j ∉ vs → (L2.wipe σ vs)[j]? = σ[j]?
  | [], _, _ => rfl
  | v :: vs, j, h => by
    unfold L2.wipe
    rw [List.getElem?_set_ne (fun e => h (by rw [e]; exact List.mem_cons_self)), wipe_get fun e => h (List.mem_cons_of_mem _ e)]
theorem backR_length (ρ0 ρ : Ro) : ∀ vs, (backR ρ0 ρ vs).length = ρ.length
  | [] => rfl
  | v :: vs => by
    unfold backR
    split <;> rw [List.length_set, backR_length ρ0 ρ vs]
theorem backR_get {ρ0 ρ : Ro} {s : Slot} {j : Nat} : ∀ {vs : List Nat}, (backR ρ0 ρ vs)[j]? = some s → (j ∈ vs ∧ (s = .un ∨ ∃ d, s = .val d ∧ ρ0[j]? = some (.val d))) ∨ (j ∉ vs ∧ ρ[j]? = some s)
  | [], h => .inr ⟨by simp, h⟩
  | v :: vs, h => by
    unfold backR at h
    split at h
    · rename_i d hd
      rcases getElem?_set' h with ⟨rfl, rfl, _⟩ | ⟨ne, h⟩
      · exact .inl ⟨List.mem_cons_self, .inr ⟨d, rfl, hd⟩⟩
      · rcases backR_get h with ⟨a, b⟩ | ⟨a, b⟩
        · exact .inl ⟨List.mem_cons_of_mem _ a, b⟩
        · exact .inr ⟨by simp only [List.mem_cons, not_or]; exact ⟨ne, a⟩, b⟩
    · rcases getElem?_set' h with ⟨rfl, rfl, _⟩ | ⟨ne, h⟩
      · exact .inl ⟨List.mem_cons_self, .inl rfl⟩
      · rcases backR_get h with ⟨a, b⟩ | ⟨a, b⟩
        · exact .inl ⟨List.mem_cons_of_mem _ a, b⟩
        · exact .inr ⟨by simp only [List.mem_cons, not_or]; exact ⟨ne, a⟩, b⟩
/-- behind a block: the def's own slots again -/
theorem Rep.back {ρ0 : Ro} {C0 : Hp} {H0 : Hp} {vs : List Nat} (R0 : Rep T F ρ0 C0 σ H0) (s : Same C0 C) (R : Rep T F ρ C (L2.wipe σ vs) H) : Rep T F (backR ρ0 ρ vs) C σ H := by
  refine ⟨R.c0, R.sub, R.keep, R.tbl, R.htb, R.ctab, R.tabs, R.new, R.refd, R.sys, by rw [backR_length, R.len, wipe_length], fun j t hj => ?_, fun j k q r r' o o' jk hj hk vj vk => ?_⟩
  · rcases backR_get hj with ⟨a, rfl | ⟨d, rfl, hd⟩⟩ | ⟨a, b⟩
    · trivial
    · obtain ⟨x, hx, hd⟩ := R0.val hd
      exact ⟨x, hx, hd.mono s⟩
    · have := R.slot j t b
      rw [wipe_get a] at this
      exact this
  · rcases backR_get hj with ⟨_, e | ⟨_, e, _⟩⟩ | ⟨a, b⟩
    · cases e
    · cases e
    · rcases backR_get hk with ⟨_, e | ⟨_, e, _⟩⟩ | ⟨a', b'⟩
      · cases e
      · cases e
      · exact R.apart j k q r r' o o' jk b b' (by rw [wipe_get a]; exact vj) (by rw [wipe_get a']; exact vk)
theorem Fresh.mono_wipe {vs : List Nat} (f : Fresh F ρ C σ p) : Fresh F (wipeR ρ vs) C (L2.wipe σ vs) p := by
  refine ⟨f.core, f.start, fun j r o hj hv => ?_⟩
  have : ∀ vs, (wipeR ρ vs)[j]? = some (.own r o) → ρ[j]? = some (.own r o) ∧ j ∉ vs := by
    intro vs
    induction vs with
    | nil => exact fun h => ⟨h, by simp⟩
    | cons v vs ih =>
      intro h
      rcases getElem?_set' h with ⟨_, e, _⟩ | ⟨ne, h⟩
      · cases e
      · exact ⟨(ih h).1, by simp only [List.mem_cons, not_or]; exact ⟨ne, (ih h).2⟩⟩
  obtain ⟨a, b⟩ := this vs hj
  rw [wipe_get b] at hv
  exact f.owned j r o a hv
end

section
variable {X : Cx} {τ : Tb} {pos : Pos}
/-- targets of a block: its own names alone -/
def liftGv (T : PK) (vs : List Nat) (g : QG) : TG := fun v σ H Q => ∃ F ρ C d, Rep T F ρ C σ H ∧ Da T.w C v d ∧ ∃ κ, g d ρ κ ∧ ∀ ρ' C' σ' H', κ ρ' → Same C C' → Rep T F ρ' C' σ' H' → wipe σ' vs = wipe σ vs → Q σ' H'
abbrev PQGv (τ : Tb) (X : Cx) (vs : List Nat) (e : Expr) (g : QG) : Prop := PG X e (liftGv (X.pk τ) vs g)
theorem wipe_set {σ : St} {i : Nat} {x : Option V} : ∀ {vs : List Nat}, i ∈ vs → wipe (σ.set i x) vs = wipe σ vs
  | [], h => by cases h
  | v :: vs, h => by
    by_cases hv : i ∈ vs
    · unfold wipe; rw [wipe_set hv]
    · rcases List.mem_cons.mp h with rfl | h
      · have : ∀ vs : List Nat, i ∉ vs → wipe (σ.set i x) vs = (wipe σ vs).set i x := by
          intro vs
          induction vs with
          | nil => intro _; rfl
          | cons u us ih =>
            intro h
            unfold wipe
            rw [ih fun e => h (List.mem_cons_of_mem _ e), List.set_comm _ _ (fun e => h (by rw [e]; exact List.mem_cons_self))]
        unfold wipe
        rw [this vs hv, List.set_set]
      · exact absurd h hv
theorem qv_name {i : Nat} {x : Str} {vs : List Nat} (hN : X.N.Nodup) (hi : X.N[i]? = some x) (hx : Loc X.env.scope x) (hm : i ∈ vs) (hf : X.fn x = true ∨ X.env.scope.names.lookup x = some .local := by first | exact .inl rfl | exact .inr rfl | assumption) : PQGv τ X vs (.Name x pos) (gN i) := by
  refine pg_imp (pg_name hN hi hx hf) ?_
  rintro v σ H Q ⟨F, ρ, C, d, R, hd, κ, k, z⟩
  exact z _ _ _ _ k (same_refl _) (R.setVal hd) (wipe_set hm)
/-- tests of a clause -/
def qYes : QT := fun ρ κ => κ true ρ
abbrev PQTs (τ : Tb) (X : Cx) (ifs : List Expr) (t : QT) : Prop := PTs X ifs (liftT (X.pk τ) t)
theorem pts_imp {ifs : List Expr} {t t' : TT} (p : PTs X ifs t) (h : ∀ σ H Q, t' σ H Q → t σ H Q) : PTs X ifs t' := ⟨fun pins s σ H Q I q => p.run pins s σ H Q I (h _ _ _ q)⟩
theorem qts_nil : PQTs τ X [] qYes := by
  refine pts_imp pts_nil ?_
  rintro σ H Q ⟨F, ρ, C, R, κ, k, z⟩
  exact z _ _ _ _ k (same_refl _) R
theorem qts_one {c : Expr} {t : QT} (h : PQT τ X c t) : PQTs τ X [c] t := pts_one h
/-- the turns of a comprehension: what is walked, what is made -/
def lcL (g : QG) (tt : QT) (te : QE) (vs : List Nat) (κ : List PyData → Ro → Prop) : List PyData → List PyData → Ro → Prop
  | [], acc, ρ => κ acc ρ
  | d :: ds, acc, ρ => ∃ N : List PyData → Ro → Prop, (∀ acc' ρ', N acc' ρ' → lcL g tt te vs κ ds acc' ρ') ∧ g d ρ fun ρ1 => tt ρ1 fun b ρ2 => yn b (te ρ2 fun y ρ3 => N (acc ++ [y]) (wipeR ρ3 vs)) (N acc (wipeR ρ2 vs))
theorem lcL_by {g : QG} {tt : QT} {te : QE} {vs : List Nat} {κ : List PyData → Ro → Prop} (I : List PyData → List PyData → Ro → Prop) (h0 : ∀ acc ρ, I [] acc ρ → κ acc ρ)
    (hs : ∀ d ds acc ρ, I (d :: ds) acc ρ → g d ρ fun ρ1 => tt ρ1 fun b ρ2 => yn b (te ρ2 fun y ρ3 => I ds (acc ++ [y]) (wipeR ρ3 vs)) (I ds acc (wipeR ρ2 vs))) : ∀ ds acc ρ, I ds acc ρ → lcL g tt te vs κ ds acc ρ
  | [], acc, ρ, h => h0 acc ρ h
  | d :: ds, acc, ρ, h => ⟨I ds, fun acc' ρ' h' => lcL_by I h0 hs ds acc' ρ' h', hs d ds acc ρ h⟩
def qfLc (qi : QI) (g : QG) (tt : QT) (te : QE) (vs : List Nat) : QF := fun ρ κ => qi ρ fun ds ρ1 => lcL g tt te vs (fun acc ρ2 => κ (.lst acc) (backR ρ1 ρ2 vs)) ds [] (wipeR ρ1 vs)
theorem lc_imp {T : PK} {qi : QI} {g : QG} {tt : QT} {te : QE} {vs : List Nat} : ∀ σ H Q, liftF T (qfLc qi g tt te vs) σ H Q → tLc (liftI T qi) (liftGv T vs g) (liftT T tt) (liftE T te) vs σ H Q := by
  rintro σ H Q ⟨F, ρ, C, R, κ, k, z⟩
  refine ⟨F, ρ, C, R, _, k, fun ds ρ1 C1 H1 J k1 s1 R1 wk D hD => ?_⟩
  refine ⟨fun i m H => m + i = ds.length ∧ ∃ ρ2 C2 av acc, Same C1 C2 ∧ Rep T F ρ2 C2 (wipe σ vs) H ∧ H D = some (.lst av) ∧ DaAll T.w C2 av acc ∧ Fresh F ρ2 C2 (wipe σ vs) D ∧ av.length ≤ i ∧ lcL g tt te vs (fun acc ρ2 => κ (.lst acc) (backR ρ1 ρ2 vs)) (ds.drop i) acc ρ2,
    ⟨ds.length, rfl, wipeR ρ1 vs, C1, [], [], same_refl _, (R1.layH hD).wipe vs, upd_same, .nil, (R1.new_fresh hD).mono_wipe, Nat.le_refl _, k1⟩, ?_⟩
  have hr := R1.ref_ne hD
  have c0 := R1.c0_none (sub_none R1.sub hD)
  have few := wk.few
  rintro i m H2 ⟨hm, ρ2, C2, av, acc, s2, R2, e2, d2, f2, l2, k2⟩
  by_cases lt : i < ds.length
  · have hd : ds.drop i = ds[i] :: ds.drop (i + 1) := List.drop_eq_getElem_cons lt
    rw [hd] at k2
    obtain ⟨N, hN, k2⟩ := k2
    refine .inr ⟨wk.go i C2 H2 s2 R2.sub lt, fun H' => ∃ ρ3 C3 av acc, Same C1 C3 ∧ Rep T F ρ3 C3 (wipe σ vs) H' ∧ H' D = some (.lst av) ∧ DaAll T.w C3 av acc ∧ Fresh F ρ3 C3 (wipe σ vs) D ∧ av.length ≤ i + 1 ∧ N acc ρ3, ?_, ?_⟩
    · rintro H' ⟨ρ3, C3, av3, acc3, s3, R3, e3, d3, f3, l3, n3⟩
      exact ⟨m - 1, by omega, by omega, ρ3, C3, av3, acc3, s3, R3, e3, d3, f3, l3, hN _ _ n3⟩
    · intro x H3 hy
      have Rg := R2.guard f2 e2
      obtain ⟨d, C3, hd1, s3, R3, hd2⟩ := wk.yld i _ ρ2 C2 _ H2 x H3 Rg s2 hy lt
      have : ds[i] = d := by rw [List.getElem?_eq_getElem lt] at hd1; exact Option.some.inj hd1
      rw [this] at k2
      have nt : ∀ xs, HO.lst av ≠ .tup xs := fun xs e => nomatch e
      have no : NoTb (HO.lst av) := fun xs e => nomatch e
      refine ⟨_, ρ2, C3, d, R3, hd2, _, k2, fun ρ4 C4 σ4 H4 k4 s4 R4 w4 => ⟨w4.trans ?_, _, ρ4, C4, R4, _, k4, fun b ρ5 C5 H5 k5 s5 R5 => ?_⟩⟩
      · have : ∀ us : List Nat, (∀ u ∈ us, u ∈ vs) → wipe (wipe σ us) vs = wipe σ vs := by
          intro us
          induction us with
          | nil => intro _; rfl
          | cons u us ih =>
            intro h
            show wipe ((wipe σ us).set u none) vs = _
            rw [wipe_set (h u List.mem_cons_self), ih fun w hw => h w (List.mem_cons_of_mem _ hw)]
        exact this vs fun _ h => h
      · have w4' : wipe σ4 vs = wipe σ vs := w4.trans (by
          have : ∀ us : List Nat, (∀ u ∈ us, u ∈ vs) → wipe (wipe σ us) vs = wipe σ vs := by
            intro us
            induction us with
            | nil => intro _; rfl
            | cons u us ih =>
              intro h
              show wipe ((wipe σ us).set u none) vs = _
              rw [wipe_set (h u List.mem_cons_self), ih fun w hw => h w (List.mem_cons_of_mem _ hw)]
          exact this vs fun _ h => h)
        have s15 := same_trans s2 (same_trans s3 (same_trans s4 s5))
        cases b with
        | false =>
          obtain ⟨R6, e6, f6⟩ := R5.unguard nt no f2.start c0 hr
          refine ⟨wipeR ρ5 vs, C5, av, acc, s15, by rw [← w4']; exact R6.wipe vs, e6, d2.mono (same_trans s3 (same_trans s4 s5)), by rw [← w4']; exact f6.mono_wipe, Nat.le_succ_of_le l2, k5⟩
        | true =>
          refine ⟨_, ρ5, C5, R5, _, k5, fun y ρ6 v C6 H6 k6 s6 R6 d6 => ?_⟩
          obtain ⟨R7, e7, f7⟩ := R6.unguard nt no f2.start c0 hr
          refine ⟨av, e7, by omega, wipeR ρ6 vs, C6, av ++ [v], acc ++ [y], same_trans s15 s6, ?_, upd_same, ?_, by rw [← w4']; exact f7.mono_wipe, by rw [List.length_append]; show _ + 1 ≤ _; omega, k6⟩
          · rw [← w4']; exact (R7.writeF f7 hr ⟨fun _ z => (by rw [e7] at z; cases z), fun _ z => (by rw [e7] at z; cases z)⟩ _).wipe vs
          · exact (d2.mono (same_trans s3 (same_trans s4 (same_trans s5 s6)))).snoc d6
  · refine .inl ⟨wk.stop i C2 H2 s2 R2.sub (by omega), ?_⟩
    rw [List.drop_eq_nil_of_le (by omega)] at k2
    have Rb := Rep.back R1 s2 R2
    refine z _ _ _ _ _ k2 (same_trans s1 s2) Rb ⟨av, e2, d2⟩ ⟨f2.core, f2.start, fun j r o hj hv => ?_⟩ hr
    rcases backR_get hj with ⟨_, e | ⟨_, e, _⟩⟩ | ⟨a, b⟩
    · cases e
    · cases e
    · exact f2.owned j r o b (by rw [wipe_get a]; exact hv)
theorem qf_lc {elt tg iter : Expr} {ifs : List Expr} {scope : Scope} {own : List (Str × Nat)} {qi : QI} {g : QG} {tt : QT} {te : QE} (hc : X.calm = true) (hN : X.N.Nodup) (hi : PQI τ X tg iter qi) (ok : BlkOk X.N X.env.scope scope own)
    (hg : ∀ (s : Shared) (H : Hp) (C : Addr) (cl : List (Str × Addr)) (fp : List Addr), PQGv τ (X.blk s H scope (compEnvC scope cl C X.env) fp) (own.map (·.2)) tg g) (ht : ∀ (s : Shared) (H : Hp) (C : Addr) (cl : List (Str × Addr)) (fp : List Addr), PQTs τ (X.blk s H scope (compEnvC scope cl C X.env) fp) ifs tt)
    (he : ∀ (s : Shared) (H : Hp) (C : Addr) (cl : List (Str × Addr)) (fp : List Addr), PQ τ (X.blk s H scope (compEnvC scope cl C X.env) fp) elt te) (hs : ∀ x, foldedSetIterable iter X.env x = pure x := by intro _; rfl) :
    PQF τ X (.ListComp elt [⟨tg, iter, ifs, 0⟩] scope pos) (qfLc qi g tt te (own.map (·.2))) := pe_imp _ (pe_lc hc hN hi ok hg ht he hs) lc_imp
/-- a new list is data at once -/
def qOf (q : QF) : QE := fun ρ κ => q ρ fun o ρ1 => match o with
  | .lst ds => κ (.list ds) ρ1
  | _ => False
theorem of_imp {T : PK} {q : QF} {t : TE} (h : ∀ σ H Q, liftF T q σ H Q → t σ H Q) : ∀ σ H Q, liftE T (qOf q) σ H Q → t σ H Q := by
  rintro σ H Q ⟨F, ρ, C, R, κ, k, z⟩
  refine h σ H Q ⟨F, ρ, C, R, _, k, fun o ρ1 p C1 H1 k1 s1 R1 w1 f1 _ => ?_⟩
  cases o with
  | lst ds =>
    obtain ⟨vs, a, b⟩ := w1
    exact z _ _ _ _ _ k1 (same_trans s1 (same_new f1.core)) (R1.adopt f1 a) (.lst upd_same (own_nsys R1 f1.core) (b.mono (same_new f1.core)))
  | _ => exact False.elim k1
theorem qe_of {e : Expr} {q : QF} (h : PQF τ X e q) : PQ τ X e (qOf q) := pe_imp _ h (of_imp fun _ _ _ z => z)
section
variable {i : Nat} {y : Str} {py spos : Pos} {elt tg iter : Expr} {ifs : List Expr} {scope : Scope} {own : List (Str × Nat)} {qi : QI} {g : QG} {tt : QT} {te : QE}
theorem qs_setLc (hc : X.calm = true) (hN : X.N.Nodup) (hy : X.N[i]? = some y) (hyl : X.env.scope.names.lookup y = some .local)
    (hsw : swapsWith (.ListComp elt [⟨tg, iter, ifs, 0⟩] scope pos) (some (.Name y py)) spos.line X.env = pure true) (hi : PQI τ X tg iter qi) (ok : BlkOk X.N X.env.scope scope own)
    (hg : ∀ (s : Shared) (H : Hp) (C : Addr) (cl : List (Str × Addr)) (fp : List Addr), PQGv τ (X.blk s H scope (compEnvC scope cl C X.env) fp) (own.map (·.2)) tg g) (ht : ∀ (s : Shared) (H : Hp) (C : Addr) (cl : List (Str × Addr)) (fp : List Addr), PQTs τ (X.blk s H scope (compEnvC scope cl C X.env) fp) ifs tt)
    (he : ∀ (s : Shared) (H : Hp) (C : Addr) (cl : List (Str × Addr)) (fp : List Addr), PQ τ (X.blk s H scope (compEnvC scope cl C X.env) fp) elt te) (hs : ∀ x, foldedSetIterable iter X.env x = pure x := by intro _; rfl) :
    PQS τ X (.Assign [.Name y py] (.ListComp elt [⟨tg, iter, ifs, 0⟩] scope pos) spos) (qSet i (qOf (qfLc qi g tt te (own.map (·.2))))) := by
  refine ps_imp _ (ps_setLc (g := liftGv (X.pk τ) (own.map (·.2)) g) (tt := liftT (X.pk τ) tt) (te := liftE (X.pk τ) te) hc hN hy hyl hsw hi ok hg ht he hs) fun D σ H h => ?_
  exact of_imp lc_imp _ _ _ (set_imp (X := X) D σ H h)
end
end
end L2.Pu

set_option Elab.async false
set_option linter.all false
set_option maxRecDepth 100000
set_option maxHeartbeats 4000000
/-! ## Defs and their calls -/
namespace L2.Pu
open PySem PySem.Spec PyProof.Rows
/-- what a def promises: its arguments, what it answers with what the own arguments hold then -/
abbrev PSp := List Slot → (PyData → List Slot → Prop) → Prop
/-- the own arguments, by place -/
def refsAt : Nat → List Slot → List V → List (Nat × Addr)
  | i, .own _ _ :: ss, .ref p :: vs => (i, p) :: refsAt (i + 1) ss vs
  | i, _ :: ss, _ :: vs => refsAt (i + 1) ss vs
  | _, _, _ => []
theorem mem_refsAt : ∀ {i : Nat} {ss : List Slot} {vs : List V} {q : Nat × Addr}, q ∈ refsAt i ss vs → ∃ k r o, q.1 = i + k ∧ ss[k]? = some (.own r o) ∧ vs[k]? = some (.ref q.2)
  | i, [], _, q, h => by simp [refsAt] at h
  | i, s :: ss, [], q, h => by cases s <;> simp [refsAt] at h
  | i, s :: ss, v :: vs, q, h => by
    have rest : q ∈ refsAt (i + 1) ss vs → ∃ k r o, q.1 = i + k ∧ (s :: ss)[k]? = some (.own r o) ∧ (v :: vs)[k]? = some (.ref q.2) := fun h => by
      obtain ⟨k, r, o, a, b, c⟩ := mem_refsAt h
      exact ⟨k + 1, r, o, by omega, by simpa using b, by simpa using c⟩
    cases s with
    | own r o =>
      cases v with
      | ref p =>
        rcases List.mem_cons.mp (show q ∈ (i, p) :: refsAt (i + 1) ss vs from h) with rfl | h
        · exact ⟨0, r, o, rfl, rfl, rfl⟩
        · exact rest h
      | _ => exact rest h
    | _ => cases v <;> exact rest h
theorem refsAt_mem : ∀ {i k : Nat} {ss : List Slot} {vs : List V} {r : Bool} {o : Own} {p : Addr}, ss[k]? = some (.own r o) → vs[k]? = some (.ref p) → (i + k, p) ∈ refsAt i ss vs
  | i, k, [], _, _, _, _, h, _ => by simp at h
  | i, k, s :: ss, [], _, _, _, _, h => by simp at h
  | i, 0, s :: ss, v :: vs, r, o, p, h, h' => by
    simp only [List.getElem?_cons_zero, Option.some.injEq] at h h'
    subst h h'
    exact List.mem_cons_self
  | i, k + 1, s :: ss, v :: vs, r, o, p, h, h' => by
    have m : (i + 1 + k, p) ∈ refsAt (i + 1) ss vs := refsAt_mem (by simpa using h) (by simpa using h')
    rw [show i + (k + 1) = i + 1 + k by omega]
    cases s with
    | own r o =>
      cases v with
      | ref p => exact List.mem_cons_of_mem _ m
      | _ => exact m
    | _ => cases v <;> exact m
/-- how a call stands -/
def Stand (T : PK) (C H : Hp) (ss : List Slot) (vs : List V) : Prop := Rep T ⟨C, H, refsAt 0 ss vs⟩ ss C (vs.map some) H
def liftP (T : PK) (sp : PSp) : Sp := fun vs H Q _ => ∃ C ss, Stand T C H ss vs ∧ ∃ κ, sp ss κ ∧ ∀ d ss' v C' H', κ d ss' → Same C C' → Rep T ⟨C, H, refsAt 0 ss vs⟩ ss' C' (vs.map some) H' → Da T.w C' v d → Q v H'
/-- a call's argument: an expression, or a name whose own thing is handed over -/
inductive CArg where
  | e (q : QE)
  | r (j : Nat)
def ownAt (ρ : Ro) (j : Nat) : Option Slot := match ρ[j]? with
  | some (.own _ o) => some (.own true o)
  | some (.scr ns) => some (.scr ns)
  | _ => none
def qArgs : List CArg → Ro → (List Slot → Ro → Prop) → Prop
  | [], ρ, κ => κ [] ρ
  | .e q :: as, ρ, κ => q ρ fun d ρ1 => qArgs as ρ1 fun ss ρ2 => κ (.val d :: ss) ρ2
  | .r j :: as, ρ, κ => (ownAt ρ j).isSome = true ∧ qArgs as ρ fun ss ρ2 => match ownAt ρ2 j with
    | some s => κ (s :: ss) ρ2
    | none => False
def refsOf : List CArg → List Nat
  | [] => []
  | .e _ :: as => refsOf as
  | .r j :: as => j :: refsOf as
def backS (old : Option Slot) (s : Slot) : Slot := match old, s with
  | some (.own r _), .own _ o => .own r o
  | some (.scr ns), _ => .scr ns
  | _, _ => .un
def putBack (ρ1 : Ro) : List CArg → List Slot → Ro → Ro
  | .r j :: as, s :: ss, ρ => putBack ρ1 as ss (ρ.set j (backS ρ1[j]? s))
  | .e _ :: as, _ :: ss, ρ => putBack ρ1 as ss ρ
  | _, _, ρ => ρ
/-- the values of arguments -/
inductive ArgsAre (w : World) (C : Hp) (σ : St) (ρ : Ro) : List CArg → List Slot → List V → Prop
  | nil : ArgsAre w C σ ρ [] [] []
  | e {q : QE} {as : List CArg} {ss : List Slot} {vs : List V} {v : V} {d : PyData} : Da w C v d → ArgsAre w C σ ρ as ss vs → ArgsAre w C σ ρ (.e q :: as) (.val d :: ss) (v :: vs)
  | r {j : Nat} {as : List CArg} {ss : List Slot} {vs : List V} {v : V} {s : Slot} : σ[j]? = some (some v) → ownAt ρ j = some s → ArgsAre w C σ ρ as ss vs → ArgsAre w C σ ρ (.r j :: as) (s :: ss) (v :: vs)
theorem ArgsAre.mono {C C' : Hp} {σ : St} {ρ : Ro} (s : Same C C') : ∀ {as : List CArg} {ss : List Slot} {vs : List V}, ArgsAre w C σ ρ as ss vs → ArgsAre w C' σ ρ as ss vs
  | _, _, _, .nil => .nil
  | _, _, _, .e a t => .e (a.mono s) (t.mono s)
  | _, _, _, .r a b t => .r a b (t.mono s)
theorem ArgsAre.len {C : Hp} {σ : St} {ρ : Ro} : ∀ {as : List CArg} {ss : List Slot} {vs : List V}, ArgsAre w C σ ρ as ss vs → ss.length = vs.length ∧ as.length = vs.length
  | _, _, _, .nil => ⟨rfl, rfl⟩
  | _, _, _, .e _ t => by have := t.len; simp only [List.length_cons]; omega
  | _, _, _, .r _ _ t => by have := t.len; simp only [List.length_cons]; omega
theorem ArgsAre.get {C : Hp} {σ : St} {ρ : Ro} : ∀ {as : List CArg} {ss : List Slot} {vs : List V} {k : Nat} {s : Slot}, ArgsAre w C σ ρ as ss vs → ss[k]? = some s →
    ∃ v, vs[k]? = some v ∧ ((∃ d, s = .val d ∧ Da w C v d) ∨ ∃ j, as[k]? = some (.r j) ∧ σ[j]? = some (some v) ∧ ownAt ρ j = some s)
  | _, _, _, k, _, .nil, h => by simp at h
  | _, _, _, 0, _, .e a t, h => by simp at h; subst h; exact ⟨_, rfl, .inl ⟨_, rfl, a⟩⟩
  | _, _, _, 0, _, .r (j := j) a b t, h => by simp at h; subst h; exact ⟨_, rfl, .inr ⟨j, rfl, a, b⟩⟩
  | _, _, _, k + 1, _, .e a t, h => by
    obtain ⟨v, h1, h2⟩ := t.get (k := k) (by simpa using h)
    exact ⟨v, by simpa using h1, h2.imp id fun ⟨j, x, y⟩ => ⟨j, by simpa using x, y⟩⟩
  | _, _, _, k + 1, _, .r a b t, h => by
    obtain ⟨v, h1, h2⟩ := t.get (k := k) (by simpa using h)
    exact ⟨v, by simpa using h1, h2.imp id fun ⟨j, x, y⟩ => ⟨j, by simpa using x, y⟩⟩
def liftC (T : PK) (as : List CArg) : TA := fun σ H Q => ∃ F ρ C, Rep T F ρ C σ H ∧ ∃ κ, qArgs as ρ κ ∧ ∀ ss ρ' vs C' H', κ ss ρ' → Same C C' → Rep T F ρ' C' σ H' → ArgsAre T.w C' σ ρ' as ss vs → Q vs H'
abbrev PQC (τ : Tb) (X : Cx) (es : List Expr) (as : List CArg) : Prop := PA X es (liftC (X.pk τ) as)
section
variable {X : Cx} {τ : Tb} {pos : Pos} {e : Expr} {es : List Expr}
theorem qc_nil : PQC τ X [] [] := by
  refine pa_imp _ pa_nil ?_
  rintro σ H Q ⟨F, ρ, C, R, κ, k, z⟩
  exact z _ _ _ _ _ k (same_refl _) R .nil
theorem qc_e {q : QE} {as : List CArg} (h : PQ τ X e q) (t : PQC τ X es as) (hs : starEach (e :: es) X.env = (false, eval e X.env) :: starEach es X.env := by rfl) : PQC τ X (e :: es) (.e q :: as) := by
  refine pa_imp _ (pa_cons h t hs) ?_
  rintro σ H Q ⟨F, ρ, C, R, κ, k, z⟩
  refine ⟨F, ρ, C, R, _, k, fun d ρ1 v C1 H1 k1 s1 R1 d1 => ?_⟩
  refine ⟨F, ρ1, C1, R1, _, k1, fun ss ρ2 vs C2 H2 k2 s2 R2 a2 => ?_⟩
  exact z _ _ _ _ _ k2 (same_trans s1 s2) R2 (.e (d1.mono s2) a2)
theorem ownAt_var {T : PK} {F : Fm} {ρ : Ro} {C : Hp} {σ : St} {H : Hp} {j : Nat} {s : Slot} (R : Rep T F ρ C σ H) (h : ownAt ρ j = some s) : ∃ p, σ[j]? = some (some (.ref p)) := by
  unfold ownAt at h
  split at h
  · rename_i r o e
    obtain ⟨p, a, _⟩ := R.own e
    exact ⟨p, a⟩
  · rename_i ns e
    obtain ⟨a, b, c⟩ := R.slot j _ e
    exact ⟨a, b⟩
  · cases h
theorem qc_r {j : Nat} {as : List CArg} (h : PE X e (tVar j)) (t : PQC τ X es as) (hs : starEach (e :: es) X.env = (false, eval e X.env) :: starEach es X.env := by rfl) : PQC τ X (e :: es) (.r j :: as) := by
  refine pa_imp _ (pa_cons h t hs) ?_
  rintro σ H Q ⟨F, ρ, C, R, κ, ⟨k0, k⟩, z⟩
  obtain ⟨s0, e0⟩ := Option.isSome_iff_exists.mp k0
  obtain ⟨p, hp⟩ := ownAt_var R e0
  refine ⟨_, hp, F, ρ, C, R, _, k, fun ss ρ2 vs C2 H2 k2 s2 R2 a2 => ?_⟩
  split at k2
  · rename_i s hs
    exact z _ _ _ _ _ k2 s2 R2 (.r hp hs a2)
  · exact False.elim k2
end
section
variable {T : PK} {F : Fm} {ρ : Ro} {C : Hp} {σ : St} {H : Hp}
theorem ownAt_own {ρ : Ro} {j : Nat} {r : Bool} {o : Own} (h : ownAt ρ j = some (.own r o)) : ∃ r', ρ[j]? = some (.own r' o) := by
  unfold ownAt at h
  split at h
  · rename_i r1 o1 e; cases h; exact ⟨r1, e⟩
  · cases h
  · cases h
theorem ownAt_val {ρ : Ro} {j : Nat} {d : PyData} (h : ownAt ρ j = some (.val d)) : False := by
  unfold ownAt at h
  split at h <;> cases h
theorem ownAt_exc {ρ : Ro} {j : Nat} {c : Addr} {d : PyData} (h : ownAt ρ j = some (.exc c d)) : False := by
  unfold ownAt at h
  split at h <;> cases h
theorem ownAt_fnc {ρ : Ro} {j : Nat} {f c : Addr} {q : Str} {σc : List (Option V)} {vs : List (Option PyData)} (h : ownAt ρ j = some (.fnc f c q σc vs)) : False := by
  unfold ownAt at h
  split at h <;> cases h
theorem ownAt_scr {ρ : Ro} {j : Nat} {ns : List Int} (h : ownAt ρ j = some (.scr ns)) : ρ[j]? = some (.scr ns) := by
  unfold ownAt at h
  split at h
  · cases h
  · rename_i e; cases h; exact e
  · cases h
/-- no name is handed over twice -/
def Apart (as : List CArg) : Prop := ∀ k l j : Nat, as[k]? = some (.r j) → as[l]? = some (.r j) → k = l
theorem Rep.stand (R : Rep T F ρ C σ H) {as : List CArg} {ss : List Slot} {vs : List V} (A : ArgsAre T.w C σ ρ as ss vs) (ap : Apart as) : Stand T C H ss vs := by
  refine ⟨same_refl _, R.sub, fun b o k _ _ => k, R.htb, R.htb, R.ctab, R.tabs, fun b o k k0 => ?_, fun q hq => ?_, R.sys, by rw [List.length_map]; exact A.len.1, fun i s hs => ?_, fun i j p r r' o o' ij hi hj vi vj => ?_⟩
  · have k0 : C b = none := k0
    rw [k] at k0; cases k0
  · obtain ⟨k, r, o, a, b, c⟩ := mem_refsAt hq
    obtain ⟨v, h1, h2⟩ := A.get b
    rw [c] at h1; cases h1
    rcases h2 with ⟨d, e, _⟩ | ⟨j, _, e2, e3⟩
    · cases e
    · obtain ⟨r', e4⟩ := ownAt_own e3
      obtain ⟨p, a1, a2, a3⟩ := R.own e4
      rw [e2] at a1; cases a1
      exact a3.ex
  · obtain ⟨v, h1, h2⟩ := A.get hs
    rw [List.getElem?_map, h1]
    rcases h2 with ⟨d, rfl, e⟩ | ⟨j, ej, e2, e3⟩
    · exact ⟨v, rfl, e⟩
    · cases s with
      | un => trivial
      | val d => exact (ownAt_val e3).elim
      | exc c d => exact (ownAt_exc e3).elim
      | fnc f c q σc vs => exact (ownAt_fnc e3).elim
      | scr ns =>
        obtain ⟨a, b, c⟩ := R.slot j _ (ownAt_scr e3)
        rw [e2] at b; cases b
        exact ⟨a, rfl, c⟩
      | own r o =>
        obtain ⟨r', e4⟩ := ownAt_own e3
        have hr : r = true := by
          unfold ownAt at e3
          split at e3
          · cases e3; rfl
          · cases e3
          · cases e3
        obtain ⟨p, a1, a2, a3⟩ := R.own e4
        rw [e2] at a1; cases a1
        refine ⟨p, rfl, a2, a3, ?_⟩
        subst hr
        rw [if_pos rfl]
        show (i, p) ∈ refsAt 0 ss vs
        have := refsAt_mem (i := 0) hs h1
        rw [Nat.zero_add] at this; exact this
  · obtain ⟨v, h1, h2⟩ := A.get hi
    obtain ⟨u, h3, h4⟩ := A.get hj
    rw [List.getElem?_map, h1] at vi
    rw [List.getElem?_map, h3] at vj
    cases vi; cases vj
    rcases h2 with ⟨d, e, _⟩ | ⟨m, em, e2, e3⟩
    · cases e
    · rcases h4 with ⟨d, e, _⟩ | ⟨n, en, e5, e6⟩
      · cases e
      · obtain ⟨r1, q1⟩ := ownAt_own e3
        obtain ⟨r2, q2⟩ := ownAt_own e6
        by_cases mn : m = n
        · subst mn
          exact ij (ap i j m em en)
        · exact R.apart m n p r1 r2 o o' mn q1 q2 e2 e5
theorem putBack_length (ρ1 : Ro) : ∀ (as : List CArg) (ss : List Slot) (ρ : Ro), (putBack ρ1 as ss ρ).length = ρ.length
  | [], _, _ => by simp [putBack]
  | .r j :: as, [], _ => by simp [putBack]
  | .e _ :: as, [], _ => by simp [putBack]
  | .r j :: as, s :: ss, ρ => by
    show (putBack ρ1 as ss (ρ.set j _)).length = _
    rw [putBack_length ρ1 as ss, List.length_set]
  | .e _ :: as, s :: ss, ρ => by
    show (putBack ρ1 as ss ρ).length = _
    rw [putBack_length ρ1 as ss]
theorem putBack_get {ρ1 : Ro} {m : Nat} {t : Slot} : ∀ {as : List CArg} {ss : List Slot} {ρ : Ro}, (putBack ρ1 as ss ρ)[m]? = some t → ρ[m]? = some t ∨ ∃ (k : Nat) (s : Slot), as[k]? = some (.r m) ∧ ss[k]? = some s ∧ t = backS ρ1[m]? s
  | [], _, ρ, h => .inl (by simpa [putBack] using h)
  | .r j :: as, [], ρ, h => .inl (by simpa [putBack] using h)
  | .e _ :: as, [], ρ, h => .inl (by simpa [putBack] using h)
  | .r j :: as, s :: ss, ρ, h => by
    rcases putBack_get (as := as) (ss := ss) (ρ := ρ.set j (backS ρ1[j]? s)) h with h | ⟨k, s', a, b, c⟩
    · rcases getElem?_set' h with ⟨rfl, e, _⟩ | ⟨_, h⟩
      · exact .inr ⟨0, s, rfl, rfl, e⟩
      · exact .inl h
    · exact .inr ⟨k + 1, s', by simpa using a, by simpa using b, c⟩
  | .e _ :: as, s :: ss, ρ, h => by
    rcases putBack_get (as := as) (ss := ss) (ρ := ρ) h with h | ⟨k, s', a, b, c⟩
    · exact .inl h
    · exact .inr ⟨k + 1, s', by simpa using a, by simpa using b, c⟩
theorem wipeR_get {ρ : Ro} {j : Nat} {s : Slot} : ∀ {vs : List Nat}, (wipeR ρ vs)[j]? = some s → s = .un ∨ (ρ[j]? = some s ∧ j ∉ vs)
  | [], h => .inr ⟨h, by simp⟩
  | v :: vs, h => by
    rcases getElem?_set' h with ⟨_, e, _⟩ | ⟨ne, h⟩
    · exact .inl e
    · rcases wipeR_get h with h | ⟨a, b⟩
      · exact .inl h
      · exact .inr ⟨a, by simp only [List.mem_cons, not_or]; exact ⟨ne, b⟩⟩
theorem wipeR_length (ρ : Ro) : ∀ vs, (wipeR ρ vs).length = ρ.length
  | [] => rfl
  | v :: vs => by unfold wipeR; rw [List.length_set, wipeR_length ρ vs]
theorem mem_refsOf : ∀ {as : List CArg} {k j : Nat}, as[k]? = some (.r j) → j ∈ refsOf as
  | [], _, _, h => by simp at h
  | .r i :: as, 0, j, h => by simp at h; subst h; exact List.mem_cons_self
  | .e _ :: as, 0, j, h => by simp at h
  | .r i :: as, k + 1, j, h => List.mem_cons_of_mem _ (mem_refsOf (by simpa using h))
  | .e _ :: as, k + 1, j, h => mem_refsOf (as := as) (k := k) (by simpa using h)
/-- behind a call -/
theorem Rep.after (R : Rep T F ρ C σ H) {as : List CArg} {ss ss' : List Slot} {vs : List V} {C' H' : Hp} (A : ArgsAre T.w C σ ρ as ss vs) (Rc : Rep T ⟨C, H, refsAt 0 ss vs⟩ ss' C' (vs.map some) H') :
    Rep T F (putBack ρ as ss' (wipeR ρ (refsOf as))) C' σ H' := by
  have cs : Same C C' := Rc.c0
  have inRef : ∀ q ∈ refsAt 0 ss vs, ∃ (k j : Nat) (r r' : Bool) (o : Own), as[k]? = some (.r j) ∧ ρ[j]? = some (.own r o) ∧ ss[k]? = some (.own r' o) ∧ σ[j]? = some (some (.ref q.2)) := fun q hq => by
    obtain ⟨k, r, o, a, b, c⟩ := mem_refsAt hq
    obtain ⟨v, h1, h2⟩ := A.get b
    rw [c] at h1; cases h1
    rcases h2 with ⟨d, e, _⟩ | ⟨j, e1, e2, e3⟩
    · cases e
    · obtain ⟨r', e4⟩ := ownAt_own e3
      exact ⟨k, j, r', r, o, e1, e4, b, e2⟩
  have off : ∀ (m : Nat) (r : Bool) (o : Own) (p : Addr), m ∉ refsOf as → ρ[m]? = some (.own r o) → σ[m]? = some (some (.ref p)) → ∀ q ∈ refsAt 0 ss vs, q.2 ≠ p := fun m r o p nm hm hv q hq e => by
    obtain ⟨k, j, r1, r2, o1, e1, e2, e3, e4⟩ := inRef q hq
    have jm : j ≠ m := fun z => nm (by rw [← z]; exact mem_refsOf e1)
    exact R.apart j m p r1 r o1 o jm e2 hm (by rw [← e]; exact e4) hv
  refine ⟨same_trans R.c0 cs, Rc.sub, fun b o k nk hr => ?_, R.tbl, Rc.htb, Rc.ctab, Rc.tabs, fun b o k k0 => ?_, fun q hq => ?_, Rc.sys, by rw [putBack_length, wipeR_length, R.len], fun m t ht => ?_, fun m n p r r' o o' mn hm hn vm vn => ?_⟩
  · refine Rc.keep b o (R.keep b o k nk hr) nk fun q hq e => ?_
    obtain ⟨_, j, r1, r2, o1, e1, e2, e3, e4⟩ := inRef q hq
    obtain ⟨p, a1, a2, a3, a4⟩ := R.slot j _ e2
    rw [e4] at a1; cases a1
    cases r1 with
    | true => exact hr _ a4 e
    | false =>
      have a4 : F.H0 q.2 = none := a4
      rw [e, k] at a4; cases a4
  · cases hc : C b with
    | some o1 =>
      have := cs _ _ hc
      rw [k] at this; cases this
      exact R.new b o hc k0
    | none =>
      rcases Rc.new b o k hc with h | h
      · exact .inl (R.fresh h)
      · exact .inr h
  · obtain ⟨o, ho⟩ := R.refd q hq
    by_cases ht : ∃ ps, o = .tbl ps
    · obtain ⟨ps, rfl⟩ := ht
      obtain ⟨q', m⟩ := R.htb _ ps ho
      obtain ⟨ps', e, _⟩ := Rc.tabs _ m
      exact ⟨_, e⟩
    by_cases hr : ∀ q' ∈ refsAt 0 ss vs, q'.2 ≠ q.2
    · exact ⟨o, Rc.keep _ _ ho (fun ps e => ht ⟨ps, e⟩) hr⟩
    · have : ∃ q' ∈ refsAt 0 ss vs, q'.2 = q.2 := Classical.byContradiction fun hn => hr fun q' hq' e => hn ⟨q', hq', e⟩
      obtain ⟨q', hq', e⟩ := this
      rw [← e]; exact Rc.refd q' hq'
  · rcases putBack_get ht with ht | ⟨k, s, ek, es, rfl⟩
    · rcases wipeR_get ht with rfl | ⟨ht, nm⟩
      · trivial
      · have hs := R.slot m t ht
        cases t with
        | un => trivial
        | val d => obtain ⟨x, a, b⟩ := hs; exact ⟨x, a, b.mono cs⟩
        | scr ns => obtain ⟨a, b, c⟩ := hs; exact ⟨a, b, SqL.mono' cs c⟩
        | exc c d => obtain ⟨a, dx, x, e1, e2, e3, e4⟩ := hs; exact ⟨a, dx, x, e1, cs _ _ e2, cs _ _ e3, e4.mono cs⟩
        | fnc f c q σc vs => obtain ⟨e1, e2, e3, e4⟩ := hs; exact ⟨e1, cs _ _ e2, e3, fun i d e => let ⟨x, a, b⟩ := e4 i d e; ⟨x, a, b.mono cs⟩⟩
        | own r o =>
          obtain ⟨p, a, b, c, d⟩ := hs
          obtain ⟨u, hu⟩ := c.ex
          have hk : H' p = some u := Rc.keep p u hu (fun ps e => c.notab.1 ps (by rw [← e]; exact hu)) (off m r o p nm ht a)
          have hp : H' p = H p := by rw [hk, hu]
          refine ⟨p, a, ?_, c.mono cs hp, d⟩
          cases hc : C' p with
          | none => rfl
          | some o1 =>
            rcases Rc.new p o1 hc b with h | ⟨xs, rfl⟩
            · have h : H p = none := h
              rw [hu] at h; cases h
            · have := Rc.sub _ _ hc
              rw [hp] at this
              exact (c.notup this).elim
    · have hs := Rc.slot k s es
      cases hm : ρ[m]? with
      | none => trivial
      | some old =>
        cases old with
        | un => trivial
        | val d => trivial
        | exc c d => trivial
        | fnc f c q σc vs => trivial
        | scr ns =>
          obtain ⟨a, b, c⟩ := R.slot m _ hm
          exact ⟨a, b, SqL.mono' cs c⟩
        | own r o =>
          cases s with
          | own r' o' =>
            obtain ⟨p, a, b, c, d⟩ := hs
            have hlen : k < ss.length := by
              have h1 := Rc.len
              have h2 := A.len.1
              have h3 : k < ss'.length := (List.getElem?_eq_some_iff.mp es).1
              rw [List.length_map] at h1
              omega
            obtain ⟨v, h1, h2⟩ := A.get (List.getElem?_eq_getElem hlen)
            rw [List.getElem?_map, h1] at a
            cases a
            rcases h2 with ⟨d, e, _⟩ | ⟨j, e1, e2, e3⟩
            · exfalso
              have hh : ∀ {as : List CArg} {ss : List Slot} {vs : List V} {k : Nat}, ArgsAre T.w C σ ρ as ss vs → as[k]? = some (.r m) → ∃ s, ss[k]? = some s ∧ ownAt ρ m = some s := by
                intro as ss vs k A
                induction A generalizing k with
                | nil => intro h; simp at h
                | e _ _ ih =>
                  intro h
                  cases k with
                  | zero => simp at h
                  | succ k =>
                    obtain ⟨s, x, y⟩ := ih (k := k) (by simpa using h)
                    exact ⟨s, by simpa using x, y⟩
                | r h1 h2 _ ih =>
                  intro h
                  cases k with
                  | zero => simp at h; subst h; exact ⟨_, rfl, h2⟩
                  | succ k =>
                    obtain ⟨s, x, y⟩ := ih (k := k) (by simpa using h)
                    exact ⟨s, by simpa using x, y⟩
              obtain ⟨s2, x, y⟩ := hh A ek
              rw [List.getElem?_eq_getElem hlen] at x
              rw [← Option.some.inj x, e] at y
              exact ownAt_val y
            · rw [ek] at e1; cases e1
              obtain ⟨p', f1, f2, f3, f4⟩ := R.slot m _ hm
              rw [e2] at f1; cases f1
              exact ⟨p, e2, b, c, f4⟩
          | un => trivial
          | val d => trivial
          | scr ns => trivial
          | exc c d => trivial
          | fnc f c q σc vs => trivial
  · have back : ∀ {m : Nat} {r : Bool} {o : Own}, (putBack ρ as ss' (wipeR ρ (refsOf as)))[m]? = some (.own r o) → ∃ r1 o1, ρ[m]? = some (.own r1 o1) := fun {m r o} h => by
      rcases putBack_get h with h | ⟨k, s, _, _, e⟩
      · rcases wipeR_get h with h | ⟨h, _⟩
        · cases h
        · exact ⟨_, _, h⟩
      · cases hm : ρ[m]? with
        | none => rw [hm] at e; cases e
        | some old =>
          rw [hm] at e
          cases old with
          | own r1 o1 => exact ⟨r1, o1, rfl⟩
          | un => cases e
          | val d => cases e
          | scr ns => cases e
          | exc c d => cases e
          | fnc f c q σc vs => cases e
    obtain ⟨r1, o1, a⟩ := back hm
    obtain ⟨r2, o2, b⟩ := back hn
    exact R.apart m n p r1 r2 o1 o2 mn a b vm vn
end
/-- a def that keeps its promise, as its name finds it -/
structure PFn (τ : Tb) (P : Program) (w : World) (K : PySem.W.Frag) (mg : Str → Option Value) (base : Heap) (k : Nat) (x : Str) (ps : List Str) (sp : PSp) : Prop where
  ex : ∃ f fd, Fu.FnG P w K mg base CX0 k f fd ps (liftP ⟨P, w, K, τ, base⟩ sp) ∧ mg x = some (.ref f) ∧ PySem.W.keepIn K (.ref f) = true ∧ Binds K fd ps [] ∧ ∃ (oc : Value) (od : Option Addr) (osl : Array (Option Value)), K.lookup f = some ⟨oc, od, .func fd, osl⟩
section
variable {X : Cx} {τ : Tb} {pos p : Pos} {e : Expr} {es : List Expr}
def qCall (sp : PSp) (as : List CArg) : QE := fun ρ κ => qArgs as ρ fun ss ρ1 => sp ss fun d ss' => κ d (putBack ρ1 as ss' (wipeR ρ1 (refsOf as)))
theorem qe_call {k : Nat} {x : Str} {ps : List Str} {sp : PSp} {as : List CArg} (G : PFn τ X.prog X.w X.K X.mg X.base k x ps sp) (gd : X.A.guards = some []) (hr : Room k X.A) (hg : Gl X x) (ha : PQC τ X (e :: es) as) (ap : Apart as)
    (hdb : (x == ("__debug__" : Str)) = false := by decide) (he : starEach (e :: es) X.env = (false, eval e X.env) :: starEach es X.env := by rfl) (hpl : (backTo pos (starEach es X.env)).any (·.1) = false := by rfl) :
    PQ τ X (.Call (.Name x p) (e :: es) [] pos) (qCall sp as) := by
  obtain ⟨f, fd, F, hm, hk, hb, _⟩ := G.ex
  have pass : Passes CX0 X (fun _ _ _ => False) := fun _ _ _ _ _ _ _ h => h.elim
  refine pe_imp _ (Fu.pe_callG F gd hr hg hm hk hb .nil (E := fun _ _ _ => False) pass ha hdb he hpl) ?_
  rintro σ H Q ⟨F, ρ, C, R, κ, k, z⟩
  refine ⟨F, ρ, C, R, _, k, fun ss ρ1 vs C1 H1 k1 s1 R1 A1 => ?_⟩
  show liftP _ sp (vs ++ []) H1 Q _
  rw [List.append_nil]
  exact ⟨C1, ss, R1.stand A1 ap, _, k1, fun d ss' v C2 H2 k2 s2 R2 d2 => z _ _ _ _ _ k2 (same_trans s1 s2) (R1.after A1 R2) d2⟩
end
/-- the own arguments at the end -/
def ownsOf : List Slot → Ro → List Slot
  | .own _ _ :: ss, .own true o :: ρ => .own true o :: ownsOf ss ρ
  | _ :: ss, _ :: ρ => .un :: ownsOf ss ρ
  | _ :: ss, [] => .un :: ownsOf ss []
  | [], _ => []
theorem ownsOf_length : ∀ (ss : List Slot) (ρ : Ro), (ownsOf ss ρ).length = ss.length
  | [], _ => by simp [ownsOf]
  | s :: ss, [] => by cases s <;> simp [ownsOf, ownsOf_length ss []]
  | s :: ss, t :: ρ => by
    have step : ∀ {x : Slot}, ownsOf (s :: ss) (t :: ρ) = x :: ownsOf ss ρ → (ownsOf (s :: ss) (t :: ρ)).length = (s :: ss).length := fun e => by rw [e, List.length_cons, List.length_cons, ownsOf_length ss ρ]
    cases s with
    | own r o =>
      cases t with
      | own r' o' => cases r' <;> exact step rfl
      | _ => exact step rfl
    | _ => cases t <;> exact step rfl
theorem ownsOf_get {t : Slot} : ∀ {ss : List Slot} {ρ : Ro} {i : Nat}, (ownsOf ss ρ)[i]? = some t → t = .un ∨ ∃ r o o', t = .own true o' ∧ ss[i]? = some (.own r o) ∧ ρ[i]? = some (.own true o')
  | [], _, i, h => by simp [ownsOf] at h
  | s :: ss, [], i, h => by
    have e : ownsOf (s :: ss) [] = .un :: ownsOf ss [] := by cases s <;> rfl
    rw [e] at h
    cases i with
    | zero => exact .inl (Option.some.inj h).symm
    | succ i =>
      rcases ownsOf_get (ss := ss) (ρ := []) (i := i) (by simpa using h) with h | ⟨r, o, o', a, b, c⟩
      · exact .inl h
      · simp at c
  | s :: ss, u :: ρ, i, h => by
    have step : ∀ {x : Slot}, ownsOf (s :: ss) (u :: ρ) = x :: ownsOf ss ρ → (x = .un ∨ ∃ r o o', x = .own true o' ∧ s = .own r o ∧ u = .own true o') → t = .un ∨ ∃ r o o', t = .own true o' ∧ (s :: ss)[i]? = some (.own r o) ∧ (u :: ρ)[i]? = some (.own true o') := by
      intro x e hx
      rw [e] at h
      cases i with
      | zero =>
        have : x = t := Option.some.inj h
        subst this
        rcases hx with hx | ⟨r, o, o', a, b, c⟩
        · exact .inl hx
        · exact .inr ⟨r, o, o', a, by rw [b]; rfl, by rw [c]; rfl⟩
      | succ i =>
        rcases ownsOf_get (ss := ss) (ρ := ρ) (i := i) (by simpa using h) with h | ⟨r, o, o', a, b, c⟩
        · exact .inl h
        · exact .inr ⟨r, o, o', a, by simpa using b, by simpa using c⟩
    cases s with
    | own r o =>
      cases u with
      | own r' o' =>
        cases r' with
        | true => exact step rfl (.inr ⟨r, o, o', rfl, rfl, rfl⟩)
        | false => exact step rfl (.inl rfl)
      | _ => exact step rfl (.inl rfl)
    | _ => cases u <;> exact step rfl (.inl rfl)
theorem refs_inj {ss : List Slot} {vs : List V} {i : Nat} {p : Addr} (h : (i, p) ∈ refsAt 0 ss vs) : vs[i]? = some (.ref p) := by
  obtain ⟨k, r, o, a, b, c⟩ := mem_refsAt h
  have : i = k := by simpa using a
  rw [this]; exact c
section
variable {τ : Tb} {P : Program} {w : World} {K : PySem.W.Frag} {mg : Str → Option Value} {base : Heap}
theorem rep_start {T : PK} {C H : Hp} {ss : List Slot} {vs : List V} {n : Nat} (R : Stand T C H ss vs) : Rep T ⟨C, H, refsAt 0 ss vs⟩ (ss ++ List.replicate n .un) C (vs.map some ++ List.replicate n none) H := by
  have hl := R.len
  have lookS : ∀ (i : Nat) (s : Slot), (ss ++ List.replicate n Slot.un)[i]? = some s → s = .un ∨ (i < ss.length ∧ ss[i]? = some s) := fun i s h => by
    by_cases lt : i < ss.length
    · rw [List.getElem?_append_left lt] at h; exact .inr ⟨lt, h⟩
    · rw [List.getElem?_append_right (by omega), List.getElem?_replicate] at h
      split at h
      · cases h; exact .inl rfl
      · cases h
  refine ⟨R.c0, R.sub, R.keep, R.tbl, R.htb, R.ctab, R.tabs, R.new, R.refd, R.sys, by simp only [List.length_append, List.length_replicate, hl], fun i s hs => ?_, fun i j p r r' o o' ij hi hj vi vj => ?_⟩
  · rcases lookS i s hs with rfl | ⟨lt, h⟩
    · trivial
    · rw [List.getElem?_append_left (by omega)]; exact R.slot i s h
  · rcases lookS i _ hi with e | ⟨l1, h1⟩
    · cases e
    · rcases lookS j _ hj with e | ⟨l2, h2⟩
      · cases e
      · rw [List.getElem?_append_left (by omega)] at vi vj
        exact R.apart i j p r r' o o' ij h1 h2 vi vj
/-- at the end of the body -/
theorem rep_end {T : PK} {C H C' H' : Hp} {ss : List Slot} {vs : List V} {ρ : Ro} {σ : St} (R0 : Stand T C H ss vs) (R : Rep T ⟨C, H, refsAt 0 ss vs⟩ ρ C' σ H') : Rep T ⟨C, H, refsAt 0 ss vs⟩ (ownsOf ss ρ) C' (vs.map some) H' := by
  have hl := R0.len
  have own : ∀ (i : Nat) (r : Bool) (o : Own), (ownsOf ss ρ)[i]? = some (.own r o) → r = true ∧ ∃ r0 o0 p, ss[i]? = some (.own r0 o0) ∧ ρ[i]? = some (.own true o) ∧ σ[i]? = some (some (.ref p)) ∧ (vs.map some)[i]? = some (some (.ref p)) ∧ C' p = none ∧ OwnAt T C' H' p o ∧ (i, p) ∈ refsAt 0 ss vs := fun i r o h => by
    rcases ownsOf_get h with e | ⟨r0, o0, o', a, b, c⟩
    · cases e
    · cases a
      obtain ⟨p, a1, a2, a3, a4⟩ := R.slot i _ c
      have a4 : (i, p) ∈ refsAt 0 ss vs := a4
      exact ⟨rfl, r0, o0, p, b, c, a1, by rw [List.getElem?_map, refs_inj a4]; rfl, a2, a3, a4⟩
  refine ⟨R.c0, R.sub, R.keep, R.tbl, R.htb, R.ctab, R.tabs, R.new, R.refd, R.sys, by rw [ownsOf_length, hl], fun i s hs => ?_, fun i j p r r' o o' ij hi hj vi vj => ?_⟩
  · rcases ownsOf_get hs with rfl | ⟨r0, o0, o', rfl, b, c⟩
    · trivial
    · obtain ⟨_, _, _, p, _, _, _, e1, e2, e3, e4⟩ := own i _ _ hs
      exact ⟨p, e1, e2, e3, e4⟩
  · obtain ⟨_, _, _, p1, _, x2, x3, x4, _⟩ := own i _ _ hi
    obtain ⟨_, _, _, p2, _, y2, y3, y4, _⟩ := own j _ _ hj
    rw [vi] at x4; cases x4
    rw [vj] at y4; cases y4
    exact R.apart i j p _ _ _ _ ij x2 y2 x3 y3
end
end L2.Pu

set_option Elab.async false
set_option linter.all false
set_option maxRecDepth 100000
set_option maxHeartbeats 4000000
/-! ## Texts in order -/
namespace L2.Pu
open PySem PySem.Spec PyProof.Rows
/-- a comes ahead of b, or is b -/
def leS (a b : Str) : Bool := decide (¬ b.cps.toList < a.cps.toList)
theorem leS_iff {a b : Str} : leS a b = true ↔ ¬ b.cps.toList < a.cps.toList := by unfold leS; exact decide_eq_true_iff
theorem str_ext {a b : Str} (h : a.cps.toList = b.cps.toList) : a = b := by
  cases a with
  | mk x => cases b with
    | mk y => cases x with
      | mk l => cases y with
        | mk m => cases h; rfl
theorem leS_total (a b : Str) : (leS a b || leS b a) = true := by
  by_cases h : b.cps.toList < a.cps.toList
  · have : ¬ a.cps.toList < b.cps.toList := List.lt_asymm h
    rw [Bool.or_eq_true]; exact .inr (leS_iff.mpr this)
  · rw [Bool.or_eq_true]; exact .inl (leS_iff.mpr h)
theorem leS_trans (a b c : Str) (h1 : leS a b = true) (h2 : leS b c = true) : leS a c = true := by
  rw [leS_iff] at *
  have h1' : a.cps.toList ≤ b.cps.toList := List.not_lt.mp h1
  have h2' : b.cps.toList ≤ c.cps.toList := List.not_lt.mp h2
  exact List.not_lt.mpr (List.le_trans h1' h2')
theorem leS_anti {a b : Str} (h1 : leS a b = true) (h2 : leS b a = true) : a = b := by
  rw [leS_iff] at *
  exact str_ext (List.le_antisymm (List.not_lt.mp h1) (List.not_lt.mp h2))
def sortS (xs : List Str) : List Str := xs.mergeSort leS
theorem sortS_perm (xs : List Str) : (sortS xs).Perm xs := List.mergeSort_perm xs leS
theorem sortS_pair (xs : List Str) : (sortS xs).Pairwise fun a b => leS a b = true := List.pairwise_mergeSort leS_trans leS_total xs
theorem pair_uniq {xs ys : List Str} (p : xs.Perm ys) (h1 : xs.Pairwise fun a b => leS a b = true) (h2 : ys.Pairwise fun a b => leS a b = true) : xs = ys :=
  List.Perm.eq_of_pairwise (le := fun a b => leS a b = true) (fun a b _ _ x y => leS_anti x y) h1 h2 p
theorem rising_pair : ∀ (ys : List Str) (p : Str), risingS p ys = true → (p :: ys).Pairwise fun a b => leS a b = true
  | [], p, _ => List.pairwise_singleton _ _
  | x :: r, p, h => by
    simp only [risingS, Bool.and_eq_true, Bool.not_eq_true'] at h
    have ih := rising_pair r x h.2
    have px : leS p x = true := by
      have := h.1
      rw [ltCps_eq] at this
      rw [leS_iff]; exact of_decide_eq_false this
    refine List.pairwise_cons.mpr ⟨fun b hb => ?_, ih⟩
    rcases List.mem_cons.mp hb with rfl | hb
    · exact px
    · exact leS_trans p x b px ((List.pairwise_cons.mp ih).1 b hb)
theorem sortedS_pair {ys : List Str} (h : sortedS ys = true) : ys.Pairwise fun a b => leS a b = true := by
  cases ys with
  | nil => exact .nil
  | cons x r => exact rising_pair r x h
theorem sortS_of {xs ys : List Str} (p : ys.Perm xs) (h : sortedS ys = true) : ys = sortS xs := pair_uniq (p.trans (sortS_perm xs).symm) (sortedS_pair h) (sortS_pair xs)
theorem sortS_congr {xs ys : List Str} (p : xs.Perm ys) : sortS xs = sortS ys := pair_uniq ((sortS_perm xs).trans (p.trans (sortS_perm ys).symm)) (sortS_pair xs) (sortS_pair ys)
theorem sortS_id {xs : List Str} (h : xs.Pairwise fun a b => leS a b = true) : sortS xs = xs := pair_uniq (sortS_perm xs) (sortS_pair xs) h
theorem sortS_length (xs : List Str) : (sortS xs).length = xs.length := (sortS_perm xs).length_eq
theorem mem_sortS {xs : List Str} {x : Str} : x ∈ sortS xs ↔ x ∈ xs := (sortS_perm xs).mem_iff
end L2.Pu

set_option Elab.async false
set_option linter.all false
set_option maxRecDepth 100000
set_option maxHeartbeats 4000000
/-! ## Built-ins -/
namespace L2.Pu
open PySem PySem.Spec PyProof.Rows
inductive BoAll (w : World) (C H : Hp) : List V → List PyData → Prop
  | nil : BoAll w C H [] []
  | cons {v : V} {vs : List V} {d : PyData} {ds : List PyData} : Bo w C H v d → BoAll w C H vs ds → BoAll w C H (v :: vs) (d :: ds)
/-- an argument: an expression, or a name that holds an own thing and is looked at -/
inductive BArg where
  | e (q : QE)
  | b (i : Nat)
def qBArgs : List BArg → Ro → (List PyData → Ro → Prop) → Prop
  | [], ρ, κ => κ [] ρ
  | .e q :: as, ρ, κ => q ρ fun d ρ1 => qBArgs as ρ1 fun ds ρ2 => κ (d :: ds) ρ2
  | .b i :: as, ρ, κ => (datAt ρ i).isSome = true ∧ qBArgs as ρ fun ds ρ2 => match datAt ρ2 i with
    | some d => κ (d :: ds) ρ2
    | none => False
def liftB (T : PK) (as : List BArg) : TA := fun σ H Q => ∃ F ρ C, Rep T F ρ C σ H ∧ ∃ κ, qBArgs as ρ κ ∧ ∀ ds ρ' vs C' H', κ ds ρ' → Same C C' → Rep T F ρ' C' σ H' → BoAll T.w C' H' vs ds → Q vs H'
abbrev PQB (τ : Tb) (X : Cx) (es : List Expr) (as : List BArg) : Prop := PA X es (liftB (X.pk τ) as)
section
variable {X : Cx} {τ : Tb} {pos p : Pos} {e : Expr} {es : List Expr}
theorem qb_nil : PQB τ X [] [] := by
  refine pa_imp _ pa_nil ?_
  rintro σ H Q ⟨F, ρ, C, R, κ, k, z⟩
  exact z _ _ _ _ _ k (same_refl _) R .nil
theorem qb_e {q : QE} {as : List BArg} (h : PQ τ X e q) (t : PQB τ X es as) (hs : starEach (e :: es) X.env = (false, eval e X.env) :: starEach es X.env := by rfl) : PQB τ X (e :: es) (.e q :: as) := by
  refine pa_imp _ (pa_cons h t hs) ?_
  rintro σ H Q ⟨F, ρ, C, R, κ, k, z⟩
  refine ⟨F, ρ, C, R, _, k, fun d ρ1 v C1 H1 k1 s1 R1 d1 => ?_⟩
  refine ⟨F, ρ1, C1, R1, _, k1, fun ds ρ2 vs C2 H2 k2 s2 R2 a2 => ?_⟩
  exact z _ _ _ _ _ k2 (same_trans s1 s2) R2 (.cons ((d1.mono s2).bo R2.sub) a2)
theorem qb_b {i : Nat} {as : List BArg} (h : PE X e (tVar i)) (t : PQB τ X es as) (hs : starEach (e :: es) X.env = (false, eval e X.env) :: starEach es X.env := by rfl) : PQB τ X (e :: es) (.b i :: as) := by
  refine pa_imp _ (pa_cons h t hs) ?_
  rintro σ H Q ⟨F, ρ, C, R, κ, ⟨k0, k⟩, z⟩
  obtain ⟨d0, e0⟩ := Option.isSome_iff_exists.mp k0
  obtain ⟨v, hv, _⟩ := R.bo e0
  refine ⟨v, hv, F, ρ, C, R, _, k, fun ds ρ2 vs C2 H2 k2 s2 R2 a2 => ?_⟩
  split at k2
  · rename_i d hd
    obtain ⟨u, hu, b⟩ := R2.bo hd
    rw [hv] at hu; cases hu
    exact z _ _ _ _ _ k2 s2 R2 (.cons b a2)
  · exact False.elim k2
abbrev DN := List PyData → (PyData → Prop) → Prop
abbrev RN := List V → Hp → VK → Prop
def OkN (τ : Tb) (X : Cx) (rn : RN) (r : DN) : Prop := ∀ (F : Fm) (ρ : Ro) (C : Hp) (σ : St) (H : Hp) (vs : List V) (ds : List PyData) (P : PyData → Prop) (Q : VK), Rep (X.pk τ) F ρ C σ H → BoAll X.w C H vs ds → r ds P →
  (∀ z v C' H', P z → Same C C' → Rep (X.pk τ) F ρ C' σ H' → Da X.w C' v z → Q v H') → rn vs H Q
def qBlt (r : DN) (as : List BArg) : QE := fun ρ κ => qBArgs as ρ fun ds ρ1 => r ds fun z => κ z ρ1
theorem blt_imp {rn : RN} {r : DN} {as : List BArg} (ok : OkN τ X rn r) : ∀ σ H Q, liftE (X.pk τ) (qBlt r as) σ H Q → tCB rn (liftB (X.pk τ) as) σ H Q := by
  rintro σ H Q ⟨F, ρ, C, R, κ, k, z⟩
  refine ⟨F, ρ, C, R, _, k, fun ds ρ1 vs C1 H1 k1 s1 R1 a1 => ?_⟩
  exact ok F ρ1 C1 σ H1 vs ds _ Q R1 a1 k1 fun w v C' H' kw s' R' d' => z _ _ _ _ _ kw (same_trans s1 s') R' d'
/-- .. that makes a new own thing -/
abbrev DF := List PyData → (Own → Prop) → Prop
theorem CallR.or {f : Value} {r s : RN} (a : CallR X f r) (b : CallR X f s) : CallR X f (fun vs H Q => r vs H Q ∨ s vs H Q) := fun pins sh σ H xs us Q I rx h => h.elim (a pins sh σ H xs us Q I rx) (b pins sh σ H xs us Q I rx)
section
variable {x : Str} {id T : String} {rn : RN} {r : DN} {rf : DF} {as : List BArg}
theorem qe_blt (hc : CallR X (.builtin id) rn) (ok : OkN τ X rn r) (hg : Gl X x) (hm : X.mg x = none) (hv : bootBuiltins x = some (.builtin id)) (ha : PQB τ X (e :: es) as) (hn : x ≠ "__name__" := by decide) (hdb : (x == ("__debug__" : Str)) = false := by decide)
    (he : starEach (e :: es) X.env = (false, eval e X.env) :: starEach es X.env := by rfl) (hpl : (backTo pos (starEach es X.env)).any (·.1) = false := by rfl) : PQ τ X (.Call (.Name x p) (e :: es) [] pos) (qBlt r as) := pe_imp _ (pe_callB hc hg hm hv ha hn hdb he hpl) (blt_imp ok)
theorem qe_bty (hc : CallR X (.type T) rn) (ok : OkN τ X rn r) (hg : Gl X x) (hm : X.mg x = none) (hv : bootBuiltins x = some (.type T)) (ha : PQB τ X (e :: es) as) (hn : x ≠ "__name__" := by decide) (hdb : (x == ("__debug__" : Str)) = false := by decide)
    (he : starEach (e :: es) X.env = (false, eval e X.env) :: starEach es X.env := by rfl) (hpl : (backTo pos (starEach es X.env)).any (·.1) = false := by rfl) : PQ τ X (.Call (.Name x p) (e :: es) [] pos) (qBlt r as) := pe_imp _ (pe_callTy hc hg hm hv ha hn hdb he hpl) (blt_imp ok)
end
/-! ### len -/
def lenD : DN := fun ds P => match ds with
  | [.list xs] => P (.int (xs.length : Nat))
  | [.tuple xs] => P (.int (xs.length : Nat))
  | [.str x] => x.length ≤ 16000000 ∧ P (.int (x.length : Nat))
  | _ => False
abbrev rLenT (K : PySem.W.Frag) : RN := fun xs H Q => (∃ x n, xs = [x] ∧ LenV K x H n ∧ Q (.int n) H) ∨ ∃ a kvs, xs = [V.ref a] ∧ Rd H a (.dK kvs) ∧ Q (.int (kvs.length : Nat)) H
theorem call_lenT : CallR X (.builtin "len") (rLenT X.K) := by
  refine CallR.or call_len ?_
  intro pins s σ H xs us Q I r h
  obtain ⟨a, kvs, rfl, ha, q⟩ := h
  obtain ⟨u, rfl, ru⟩ := vals1 r
  cases ru
  exact d_len I ha fun t s' I' => ⟨.int kvs.length, H, I', ⟨t, rfl⟩, q⟩
theorem ok_len : OkN τ X (rLenT X.K) lenD := by
  intro F ρ C σ H vs ds P Q R a h z
  cases a with
  | nil => exact False.elim h
  | cons a t =>
    cases t with
    | cons => cases a <;> exact False.elim h
    | nil =>
      cases a with
      | lst e ha => exact .inl ⟨_, _, rfl, .inl ⟨_, SqL.of e, rfl⟩, okq R z h (by rw [← ha.length]; exact .int _)⟩
      | tup e _ ha => exact .inl ⟨_, _, rfl, .inr ⟨_, sqF (R.sub _ _ e), rfl⟩, okq R z h (by rw [← ha.length]; exact .int _)⟩
      | str x => exact .inl ⟨_, _, rfl, ⟨line_le h.1, rfl⟩, okq R z h.2 (.int _)⟩
      | _ => exact False.elim h
theorem qe_len {as : List BArg} (hg : Gl X "len") (hm : X.mg "len" = none) (ha : PQB τ X (e :: es) as) (he : starEach (e :: es) X.env = (false, eval e X.env) :: starEach es X.env := by rfl) (hpl : (backTo pos (starEach es X.env)).any (·.1) = false := by rfl) : PQ τ X (.Call (.Name "len" p) (e :: es) [] pos) (qBlt lenD as) := qe_blt call_lenT ok_len hg hm PySem.boot_len ha (by decide) (by decide) he hpl
/-! ### tuple, list -/
def tupleD : DN := fun ds P => match ds with
  | [.list xs] => P (.tuple xs)
  | [.tuple xs] => P (.tuple xs)
  | _ => False
def rTupF (K : PySem.W.Frag) : RN := fun xs H Q => ∃ p ys, xs = [.ref p] ∧ ((SqL K H p ys ∧ ∀ l o, H l = none → Fine o ys → Q (.ref l) (upd H l o)) ∨ (SqT K H p ys ∧ Q (.ref p) H))
theorem call_tupF : CallR X (.type "tuple") (rTupF X.K) := by
  intro pins s σ H xs us Q I rv k
  obtain ⟨a, ys, rfl, k⟩ := k
  obtain ⟨u, rfl, ru⟩ := vals1 rv
  cases ru
  rcases k with ⟨sq, q⟩ | ⟨sq, q⟩
  · obtain ⟨vs, rs, pl, zl⟩ := I.list sq
    have ln := rs.length
    refine call_tuple_list pl.isList (fun h1 kp => ?_) (by simp only [List.size_toArray] <;> omega)
    have J : Inv X pins σ H { s with heap := h1 } := I.kept (t' := s.toks) kp
    exact ⟨.ref h1.objs.size, _, J.laid (t' := s.toks) (fun b ob e => Heap.get?_push_of_some _ e) (Nat.le_refl _) (tup_new zl rs), rfl, q _ _ (J.hok.fresh (Nat.le_refl _)) ⟨_, rfl, rfl⟩⟩
  · obtain ⟨vs, rs, pl, zl⟩ := I.tuple sq
    exact call_tuple_same pl ⟨V.ref a, H, I, rfl, q⟩
theorem ok_tuple : OkN τ X (rTupF X.K) tupleD := by
  intro F ρ C σ H vs ds P Q R a h z
  cases a with
  | nil => exact False.elim h
  | cons a t =>
    cases t with
    | cons => cases a <;> exact False.elim h
    | nil =>
      cases a with
      | lst e ha => exact ⟨_, _, rfl, .inl ⟨SqL.of e, fun l o nl fo => by
          obtain ⟨ob, rfl, hd⟩ := fo
          exact z _ _ _ _ h (same_new (sub_none R.sub nl)) (R.lay nl) (.tup upd_same hd (ha.mono (same_new (sub_none R.sub nl))))⟩⟩
      | tup e hd ha => exact ⟨_, _, rfl, .inr ⟨sqF (R.sub _ _ e), okq R z h (.tup e hd ha)⟩⟩
      | _ => exact False.elim h
theorem qe_tuple {as : List BArg} (hg : Gl X "tuple") (hm : X.mg "tuple" = none) (ha : PQB τ X (e :: es) as) (he : starEach (e :: es) X.env = (false, eval e X.env) :: starEach es X.env := by rfl) (hpl : (backTo pos (starEach es X.env)).any (·.1) = false := by rfl) :
    PQ τ X (.Call (.Name "tuple" p) (e :: es) [] pos) (qBlt tupleD as) := qe_bty call_tupF ok_tuple hg hm (by decide +kernel) ha (by decide) (by decide) he hpl
/-! ### all, any -/
def allD (f : List Bool → Bool) : DN := fun ds P => match ds with
  | [.list xs] => ∃ bs : List Bool, xs = bs.map PyData.bool ∧ P (.bool (f bs))
  | _ => False
theorem bools_of {C : Hp} : ∀ {bs : List Bool} {vs : List V}, DaAll w C vs (bs.map PyData.bool) → vs = bs.map V.bl
  | [], _, h => by cases h; rfl
  | b :: bs, _, h => by
    cases h with
    | cons a t => cases a; rw [bools_of t]; rfl
theorem strs_of {C : Hp} : ∀ {bs : List Str} {vs : List V}, DaAll w C vs (bs.map PyData.str) → vs = bs.map V.str
  | [], _, h => by cases h; rfl
  | b :: bs, _, h => by
    cases h with
    | cons a t => cases a; rw [strs_of t]; rfl
theorem da_strs {C : Hp} : ∀ bs : List Str, DaAll w C (bs.map V.str) (bs.map PyData.str)
  | [] => .nil
  | b :: bs => .cons (.str b) (da_strs bs)
theorem ok_allD {f : List Bool → Bool} : OkN τ X (fun vs H Q => ∃ (a : Addr) (bs : List Bool), vs = [V.ref a] ∧ SqL X.K H a (bs.map V.bl) ∧ Q (.bl (f bs)) H) (allD f) := by
  intro F ρ C σ H vs ds P Q R a h z
  cases a with
  | nil => exact False.elim h
  | cons a t =>
    cases t with
    | cons => cases a <;> exact False.elim h
    | nil =>
      cases a with
      | lst e ha =>
        obtain ⟨bs, rfl, h⟩ := h
        rw [bools_of ha] at e
        exact ⟨_, bs, rfl, SqL.of e, okq R z h (.bl _)⟩
      | _ => exact False.elim h
section
variable {as : List BArg}
theorem qe_all (hc : X.calm = true) (hg : Gl X "all") (hm : X.mg "all" = none) (ha : PQB τ X (e :: es) as) (he : starEach (e :: es) X.env = (false, eval e X.env) :: starEach es X.env := by rfl) (hpl : (backTo pos (starEach es X.env)).any (·.1) = false := by rfl) :
    PQ τ X (.Call (.Name "all" p) (e :: es) [] pos) (qBlt (allD fun bs => bs.all id) as) := qe_blt (cr_all hc) ok_allD hg hm PyProof.Rows.boot_all ha (by decide) (by decide) he hpl
theorem qe_any (hc : X.calm = true) (hg : Gl X "any") (hm : X.mg "any" = none) (ha : PQB τ X (e :: es) as) (he : starEach (e :: es) X.env = (false, eval e X.env) :: starEach es X.env := by rfl) (hpl : (backTo pos (starEach es X.env)).any (·.1) = false := by rfl) :
    PQ τ X (.Call (.Name "any" p) (e :: es) [] pos) (qBlt (allD fun bs => bs.any id) as) := qe_blt (cr_any hc) ok_allD hg hm PyProof.Rows.boot_any ha (by decide) (by decide) he hpl
end
/-! ### max, min of two whole numbers; sum -/
def mm2D (f : Int → Int → Int) : DN := fun ds P => match ds with
  | [.int i, .int j] => P (.int (f i j))
  | _ => False
theorem ok_mm2 {f : Int → Int → Int} : OkN τ X (fun xs H Q => ∃ i j, xs = [.int i, .int j] ∧ Q (.int (f i j)) H) (mm2D f) := by
  intro F ρ C σ H vs ds P Q R a h z
  cases a with
  | nil => exact False.elim h
  | cons a t =>
    cases t with
    | nil => cases a <;> exact False.elim h
    | cons b t =>
      cases t with
      | cons => cases a <;> cases b <;> exact False.elim h
      | nil =>
        cases a with
        | int i =>
          cases b with
          | int j => exact ⟨i, j, rfl, okq R z h (.int _)⟩
          | _ => exact False.elim h
        | _ => cases b <;> exact False.elim h
section
variable {as : List BArg}
theorem qe_max2 (hc : X.calm = true) (hg : Gl X "max") (hm : X.mg "max" = none) (ha : PQB τ X (e :: es) as) (he : starEach (e :: es) X.env = (false, eval e X.env) :: starEach es X.env := by rfl) (hpl : (backTo pos (starEach es X.env)).any (·.1) = false := by rfl) :
    PQ τ X (.Call (.Name "max" p) (e :: es) [] pos) (qBlt (mm2D fun i j => if j > i then j else i) as) := qe_blt (call_max2 hc) ok_mm2 hg hm (by decide +kernel) ha (by decide) (by decide) he hpl
theorem qe_min2 (hc : X.calm = true) (hg : Gl X "min") (hm : X.mg "min" = none) (ha : PQB τ X (e :: es) as) (he : starEach (e :: es) X.env = (false, eval e X.env) :: starEach es X.env := by rfl) (hpl : (backTo pos (starEach es X.env)).any (·.1) = false := by rfl) :
    PQ τ X (.Call (.Name "min" p) (e :: es) [] pos) (qBlt (mm2D fun i j => if j < i then j else i) as) := qe_blt (call_min2 hc) ok_mm2 hg hm (by decide +kernel) ha (by decide) (by decide) he hpl
end
/-! ### sorted: texts -/
end
end L2.Pu

set_option Elab.async false
set_option linter.all false
set_option maxRecDepth 100000
set_option maxHeartbeats 4000000
/-! ## Items, slices, lists that change, repr, isinstance -/
namespace L2.Pu
open PySem PySem.Spec PyProof.Rows
section
variable {X : Cx} {τ : Tb} {pos p : Pos} {a b e : Expr} {qa qb : QE}
/-! ### items -/
def ixD : D2 := fun x y P => match x, y with
  | .list ds, .int i => match atI ds i with
    | some d => P d
    | none => False
  | .tuple ds, .int i => match atI ds i with
    | some d => P d
    | none => False
  | .str z, .int i => z.length ≤ 16000000 ∧ match atI z.cps.toList i with
    | some c => P (.str ⟨#[c]⟩)
    | none => False
  | _, _ => False
theorem atI_all {C : Hp} {vs : List V} {ds : List PyData} {i : Int} {d : PyData} (h : DaAll w C vs ds) (e : atI ds i = some d) : ∃ v, atI vs i = some v ∧ Da w C v d := by
  have hl := h.length
  unfold atI at e ⊢
  rw [hl]
  cases hx : ixN ds.length i with
  | none => rw [hx] at e; cases e
  | some j =>
    rw [hx] at e
    exact h.put e
theorem ok_ix : OkD τ X (rIx X.K) ixD := by
  intro F ρ C σ H x y d e P Q R dx dy h z
  cases dy with
  | int i =>
    cases dx with
    | lst ea ha =>
      simp only [ixD] at h
      split at h
      · rename_i d' e'
        obtain ⟨v, hv, dv⟩ := atI_all ha e'
        exact .inl ⟨_, _, i, v, rfl, rfl, SqL.of ea, hv, okq R z h dv⟩
      · exact False.elim h
    | tup ea _ ha =>
      simp only [ixD] at h
      split at h
      · rename_i d' e'
        obtain ⟨v, hv, dv⟩ := atI_all ha e'
        exact .inr (.inl ⟨_, _, i, v, rfl, rfl, sqF (R.sub _ _ ea), hv, okq R z h dv⟩)
      · exact False.elim h
    | str w =>
      simp only [ixD] at h
      obtain ⟨hl, h⟩ := h
      split at h
      · rename_i c e'
        exact .inr (.inr ⟨w, i, c, rfl, rfl, line_le hl, e', okq R z h (.str _)⟩)
      · exact False.elim h
    | _ => exact False.elim h
  | _ => cases dx <;> exact False.elim h
theorem qe_ix (ha : PQ τ X a qa) (hb : PQ τ X b qb) (hs : PlainIx b := by exact fun _ _ => rfl) : PQ τ X (.Subscript a b pos) (qOp ixD qa qb) := pe_imp _ (pe_ix ix_seq ha hb hs) (op_imp ok_ix)
/-! ### slices -/
def cutD (ds : List PyData) (lo hi : Option Int) : List PyData := (ds.drop (HT.sIx ds.length 0 lo)).take (HT.sIx ds.length ds.length hi - HT.sIx ds.length 0 lo)
theorem cut_all {C : Hp} {vs : List V} {ds : List PyData} {lo hi : Option Int} (h : DaAll w C vs ds) : DaAll w C (cutV vs lo hi) (cutD ds lo hi) := by
  unfold cutV cutD
  rw [h.length]
  exact (h.drop _).take _
theorem cut_whole {ds : List PyData} {lo hi : Option Int} (h : HT.sIx ds.length 0 lo = 0 ∧ HT.sIx ds.length ds.length hi = ds.length) : cutD ds lo hi = ds := by
  unfold cutD
  rw [h.1, h.2, List.drop_zero, Nat.sub_zero, List.take_length]
abbrev QO := Ro → (Option Int → Ro → Prop) → Prop
def qoNone : QO := fun ρ κ => κ none ρ
def qoSome (q : QE) : QO := fun ρ κ => q ρ fun d ρ1 => match d with
  | .int i => κ (some i) ρ1
  | _ => False
def liftO (T : PK) (q : QO) : TO := fun σ H Q => ∃ F ρ C, Rep T F ρ C σ H ∧ ∃ κ, q ρ κ ∧ ∀ o ρ' C' H', κ o ρ' → Same C C' → Rep T F ρ' C' σ H' → Q o H'
abbrev PQO (τ : Tb) (X : Cx) (e : Option Expr) (q : QO) : Prop := PO X e (liftO (X.pk τ) q)
theorem po_imp {e : Option Expr} {t t' : TO} (h : PO X e t) (i : ∀ σ H Q, t' σ H Q → t σ H Q) : PO X e t' := ⟨fun pins s σ H Q I q => h.run pins s σ H Q I (i _ _ _ q)⟩
theorem qo_none : PQO τ X none qoNone := by
  refine po_imp po_none ?_
  rintro σ H Q ⟨F, ρ, C, R, κ, k, z⟩
  exact z _ _ _ _ k (same_refl _) R
theorem qo_some (h : PQ τ X e qa) : PQO τ X (some e) (qoSome qa) := by
  refine po_imp (po_some h) ?_
  rintro σ H Q ⟨F, ρ, C, R, κ, k, z⟩
  refine ⟨F, ρ, C, R, _, k, fun d ρ1 v C1 H1 k1 s1 R1 d1 => ?_⟩
  cases d1 with
  | int i => exact ⟨i, rfl, z _ _ _ _ k1 s1 R1⟩
  | _ => exact False.elim k1
theorem SlR.or {r s : V → Option Int → Option Int → Hp → VK → Prop} (a : SlR X r) (b : SlR X s) : SlR X (fun x lo hi H Q => r x lo hi H Q ∨ s x lo hi H Q) := fun pins sh σ H x v vl vu lo hi sl Q I rx hs pl pu h =>
  h.elim (a pins sh σ H x v vl vu lo hi sl Q I rx hs pl pu) (b pins sh σ H x v vl vu lo hi sl Q I rx hs pl pu)
def qSl (q : QE) (lo hi : QO) : QE := fun ρ κ => q ρ fun d ρ1 => lo ρ1 fun l ρ2 => hi ρ2 fun u ρ3 => match d with
  | .list ds => κ (.list (cutD ds l u)) ρ3
  | .tuple ds => κ (.tuple (cutD ds l u)) ρ3
  | _ => False
def rSlF (K : PySem.W.Frag) : V → Option Int → Option Int → Hp → VK → Prop := fun x lo hi H Q => ∃ a xs, x = .ref a ∧ SqT K H a xs ∧
  (HT.sIx xs.length 0 lo = 0 ∧ HT.sIx xs.length xs.length hi = xs.length → Q (.ref a) H) ∧ ∀ l o, H l = none → Fine o (cutV xs lo hi) → Q (.ref l) (upd H l o)
theorem sl_tupF : SlR X (rSlF X.K) := by
  intro pins s σ H x v vl vu lo hi sl Q I rx hs pl pu k
  obtain ⟨a, xs, rfl, sq, q0, q1⟩ := k
  by_cases hw : HT.sIx xs.length 0 lo = 0 ∧ HT.sIx xs.length xs.length hi = xs.length
  · exact sl_tupA pins s σ H _ v vl vu lo hi sl Q I rx hs pl pu ⟨a, xs, rfl, sq, q0, fun n => absurd hw n⟩
  · cases rx
    obtain ⟨us, rs, it, zl⟩ := I.tuple sq
    have ln : us.toArray.size = xs.length := by rw [List.size_toArray]; exact rs.length.symm
    refine ⟨"tuple", _, PyProof.Rows.slot_tuple_getitem.lookup, it.typeIs, HT.getItem_tuple_cut it hs pl pu (by rw [ln]; exact hw) ?_ (by rw [ln]; exact zl)⟩
    rw [ln]
    exact ⟨.ref s.heap.objs.size, _, I.laid (t' := s.toks) (fun b ob e => Heap.get?_push_of_some _ e) (Nat.le_refl _)
      (tup_new (Nat.le_trans (cutV_length xs lo hi) zl) ((rs.drop (HT.sIx xs.length 0 lo)).take (HT.sIx xs.length xs.length hi - HT.sIx xs.length 0 lo))), rfl, q1 _ _ (I.hok.fresh (Nat.le_refl _)) ⟨_, rfl, rfl⟩⟩
theorem qe_slice {lo hi : Option Expr} {ql qh : QO} {p2 : Pos} (h : PQ τ X e qa) (hl : PQO τ X lo ql) (hh : PQO τ X hi qh) : PQ τ X (.Subscript e (.Slice lo hi none p2) pos) (qSl qa ql qh) := by
  refine pe_imp _ (pe_slice (SlR.or sl_list sl_tupF) h hl hh) ?_
  rintro σ H Q ⟨F, ρ, C, R, κ, k, z⟩
  refine ⟨F, ρ, C, R, _, k, fun d ρ1 v C1 H1 k1 s1 R1 d1 => ⟨F, ρ1, C1, R1, _, k1, fun l ρ2 C2 H2 k2 s2 R2 => ⟨F, ρ2, C2, R2, _, k2, fun u ρ3 C3 H3 k3 s3 R3 => ?_⟩⟩⟩
  have s13 := same_trans s1 (same_trans s2 s3)
  have d3 := d1.mono (same_trans s2 s3)
  cases d3 with
  | lst ea _ ha =>
    refine .inl ⟨_, _, rfl, SqL.of (R3.sub _ _ ea), fun q nq => ?_⟩
    have cp := sub_none R3.sub nq
    exact z _ _ _ _ _ k3 (same_trans s13 (same_new cp)) (R3.lay nq) (.lst upd_same (R3.nsys nq) ((cut_all ha).mono (same_new cp)))
  | tup ea hd ha =>
    refine .inr ⟨_, _, rfl, sqF (R3.sub _ _ ea), fun w => ?_, fun q o nq fo => ?_⟩
    · rw [ha.length] at w
      dsimp only at k3
      rw [cut_whole w] at k3
      exact z _ _ _ _ _ k3 s13 R3 (.tup ea hd ha)
    · obtain ⟨ob, rfl, hd'⟩ := fo
      have cp := sub_none R3.sub nq
      exact z _ _ _ _ _ k3 (same_trans s13 (same_new cp)) (R3.lay nq) (.tup upd_same hd' ((cut_all ha).mono (same_new cp)))
  | _ => exact False.elim k3
/-! ### methods of an own list -/
section
variable {i : Nat} {apos : Pos}
def isLst (ρ : Ro) (i : Nat) : Bool := match ρ[i]? with
  | some (.own _ (.lst _)) => true
  | _ => false
theorem isLst_of {ρ : Ro} {i : Nat} (h : isLst ρ i = true) : ∃ r ds, ρ[i]? = some (.own r (.lst ds)) := by
  unfold isLst at h
  split at h
  · exact ⟨_, _, by assumption⟩
  · cases h
/-- what a method makes of the list and the arguments: its answer and the list then -/
abbrev DM := List PyData → List PyData → (PyData → List PyData → Prop) → Prop
def qMut (i : Nat) (as : QA) (r : DM) : QE := fun ρ κ => isLst ρ i = true ∧ as ρ fun xs ρ1 => match ρ1[i]? with
  | some (.own b (.lst ds)) => r ds xs fun d ds' => κ d (ρ1.set i (.own b (.lst ds')))
  | _ => False
def OkM (rm : V → List V → Hp → VK → Prop) (K : PySem.W.Frag) (r : DM) : Prop := ∀ (w : World) (C H : Hp) (l : Addr) (xs : List V) (ds : List PyData) (vs : List V) (es : List PyData) (P : PyData → List PyData → Prop) (Q : VK), Same C H → H l = some (.lst xs) → DaAll w C xs ds → DaAll w C vs es → r ds es P →
  (∀ d ds' v xs', P d ds' → Da w C v d → DaAll w C xs' ds' → Q v (upd H l (.lst xs'))) → rm (.ref l) vs H Q
theorem mut_core {rm : V → List V → Hp → VK → Prop} {r : DM} (ok : OkM rm X.K r) {F : Fm} {ρ1 : Ro} {C C1 : Hp} {σ : St} {H1 : Hp} {l : Addr} {vs : List V} {xs : List PyData} {κ : PyData → Ro → Prop} {Q : VK} (hv : σ[i]? = some (some (.ref l))) (s1 : Same C C1) (R1 : Rep (X.pk τ) F ρ1 C1 σ H1) (a1 : DaAll X.w C1 vs xs)
    (k1 : match ρ1[i]? with
      | some (.own b (.lst ds)) => r ds xs fun d ds' => κ d (ρ1.set i (.own b (.lst ds')))
      | _ => False) (z : ∀ d ρ' v C' H', κ d ρ' → Same C C' → Rep (X.pk τ) F ρ' C' σ H' → Da X.w C' v d → Q v H') : rm (.ref l) vs H1 Q := by
  split at k1
  · rename_i b ds e
    obtain ⟨p', e1, cp, us, e2, hd⟩ := R1.own e
    rw [hv] at e1; cases e1
    refine ok _ C1 H1 l us ds vs xs _ Q R1.sub e2 hd a1 k1 fun d ds' v xs' kd dv dx => ?_
    exact z _ _ _ _ _ kd s1 (R1.write e hv ⟨xs', upd_same, dx⟩) dv
  · exact False.elim k1
theorem mut_imp {rm : V → List V → Hp → VK → Prop} {r : DM} {n : Nat} {as : QA} (ok : OkM rm X.K r) : ∀ σ H Q, liftE (X.pk τ) (qMut i as r) σ H Q → tBM X.K "list" rm (tVar i) (liftN (X.pk τ) n as) σ H Q := by
  rintro σ H Q ⟨F, ρ, C, R, κ, ⟨k0, k⟩, z⟩
  obtain ⟨r0, ds0, e0⟩ := isLst_of k0
  obtain ⟨l, hv, _, us, hl, _⟩ := R.own e0
  refine ⟨_, hv, .inl ⟨rfl, _, SqL.of hl⟩, F, ρ, C, R, _, k, fun xs ρ1 vs C1 H1 k1 s1 R1 a1 _ => ?_⟩
  exact mut_core ok hv s1 R1 a1 k1 z
theorem mut0_imp {rm : V → List V → Hp → VK → Prop} {r : DM} (ok : OkM rm X.K r) : ∀ σ H Q, liftE (X.pk τ) (qMut i qaNil r) σ H Q → tBM0 X.K "list" rm (tVar i) σ H Q := by
  rintro σ H Q ⟨F, ρ, C, R, κ, ⟨k0, k⟩, z⟩
  obtain ⟨r0, ds0, e0⟩ := isLst_of k0
  obtain ⟨l, hv, _, us, hl, _⟩ := R.own e0
  exact ⟨_, hv, .inl ⟨rfl, _, SqL.of hl⟩, mut_core ok hv (same_refl _) R .nil k z⟩
def appendM : DM := fun ds xs P => match xs with
  | [d] => ds.length < 16000000 ∧ P .none (ds ++ [d])
  | _ => False
theorem ok_append : OkM rAppend X.K appendM := by
  intro w C H l xs ds vs es P Q s hl hd ha h z
  cases ha with
  | nil => exact False.elim h
  | cons a t =>
    cases t with
    | cons => exact False.elim h
    | nil => exact ⟨l, xs, _, rfl, rfl, hl, by rw [hd.length]; exact Nat.lt_of_lt_of_le h.1 (by rw [sizeLine_eq]; decide), z _ _ _ _ h.2 .non (hd.snoc a)⟩
def extendM : DM := fun ds xs P => match xs with
  | [.list es] => ds.length + es.length ≤ 16000000 ∧ P .none (ds ++ es)
  | [.tuple es] => ds.length + es.length ≤ 16000000 ∧ P .none (ds ++ es)
  | _ => False
abbrev rExtA (K : PySem.W.Frag) : V → List V → Hp → VK → Prop := fun x vs H Q => rExtend x vs H Q ∨ Fu.rExtT K x vs H Q
theorem mt_extA : MtM X "list.extend" (rExtA X.K) := fun pins s σ H x xs v us Q I rx rs h => h.elim (mt_extend pins s σ H x xs v us Q I rx rs) (Fu.mt_extT pins s σ H x xs v us Q I rx rs)
theorem ok_extend : OkM (rExtA X.K) X.K extendM := by
  intro w C H l xs ds vs es P Q s hl hd ha h z
  cases ha with
  | nil => exact False.elim h
  | cons a t =>
    cases t with
    | cons => cases a <;> exact False.elim h
    | nil =>
      cases a with
      | lst e _ hb => exact .inl ⟨l, _, xs, _, rfl, rfl, hl, s _ _ e, by rw [hd.length, hb.length]; exact line_le h.1, z _ _ _ _ h.2 .non (hd.append hb)⟩
      | tup e _ hb => exact .inr ⟨l, _, xs, _, rfl, rfl, hl, sqF (s _ _ e), by rw [hd.length, hb.length]; exact line_le h.1, z _ _ _ _ h.2 .non (hd.append hb)⟩
      | _ => exact False.elim h
def popM : DM := fun ds xs P => match xs with
  | [] => match ds.getLast? with
    | some d => P d ds.dropLast
    | none => False
  | _ => False
theorem DaAll.dropLast {C : Hp} {vs : List V} {ds : List PyData} (h : DaAll w C vs ds) : DaAll w C vs.dropLast ds.dropLast := by
  rw [List.dropLast_eq_take, List.dropLast_eq_take, h.length]; exact h.take _
theorem ok_pop : OkM rPop X.K popM := by
  intro w C H l xs ds vs es P Q s hl hd ha h z
  cases ha with
  | cons => exact False.elim h
  | nil =>
    simp only [popM] at h
    split at h
    · rename_i d e
      rw [List.getLast?_eq_getElem?, ← hd.length] at e
      obtain ⟨v, hv, dv⟩ := hd.put e
      exact ⟨l, xs, v, rfl, rfl, hl, hv, z _ _ _ _ h dv hd.dropLast⟩
    · exact False.elim h
def popAtM : DM := fun ds xs P => match xs with
  | [.int k] => (0 ≤ k ∧ k ≤ 16000000) ∧ match ds[k.toNat]? with
    | some d => P d (ds.eraseIdx k.toNat)
    | none => False
  | _ => False
theorem DaAll.eraseIdx {C : Hp} : ∀ {vs : List V} {ds : List PyData} (n : Nat), DaAll w C vs ds → DaAll w C (vs.eraseIdx n) (ds.eraseIdx n)
  | _, _, _, .nil => .nil
  | _, _, 0, .cons _ t => t
  | _, _, n + 1, .cons a t => .cons a (DaAll.eraseIdx n t)
theorem ok_popAt : OkM rPopAt X.K popAtM := by
  intro w C H l xs ds vs es P Q s hl hd ha h z
  cases ha with
  | nil => exact False.elim h
  | cons a t =>
    cases t with
    | cons => cases a <;> exact False.elim h
    | nil =>
      cases a with
      | int k =>
        obtain ⟨⟨h0, h9⟩, h⟩ := h
        split at h
        · rename_i d e
          obtain ⟨v, hv, dv⟩ := hd.put e
          have hlt : k.toNat < xs.length := (List.getElem?_eq_some_iff.mp hv).1
          obtain ⟨j, rfl⟩ := Int.eq_ofNat_of_zero_le h0
          refine ⟨l, xs, _, j, v, rfl, rfl, hl, by omega, by omega, ?_, hv, z _ _ _ _ h dv (hd.eraseIdx _)⟩
          have h3 : j < xs.length := hlt
          unfold seqIndex?
          have n0 : ¬ ((j : Nat) : Int) < 0 := by omega
          simp only [n0, if_false]
          have c : (decide (0 ≤ ((j : Nat) : Int)) && decide (((j : Nat) : Int) < (xs.length : Int))) = true := by
            rw [Bool.and_eq_true]; exact ⟨decide_eq_true (by omega), decide_eq_true (by omega)⟩
          rw [if_pos c]; rfl
        · exact False.elim h
      | _ => exact False.elim h
section
variable {es : List Expr} {q : QA} {n : Nat}
theorem qe_append (ho : PE X a (tVar i)) (ha : PQN τ X (e :: es) n q) (hbase : attributeBase a "append" X.env (eval a X.env) = eval a X.env := by rfl)
    (hfew : ((backTo pos (starEach (e :: es) X.env)).all (fun x => !x.1) && (backToKw pos (keywordEach [] X.env)).all (fun x => x.1.isSome) && decide ((e :: es).length + ([] : List Keyword).length + (if ([] : List Keyword).isEmpty then 0 else 1) < 30)) = true := by rfl)
    (hline : (apos.endLine == pos.line) = true := by rfl) (hs : starEach (e :: es) X.env = (false, eval e X.env) :: starEach es X.env := by rfl) (hplain : (backTo pos (starEach es X.env)).any (·.1) = false := by rfl) :
    PQ τ X (.Call (.Attribute a "append" apos) (e :: es) [] pos) (qMut i q appendM) := pe_imp _ (pe_bm PySem.F.plainAttrs_list PySem.F.slot_list_append PySem.F.type_list_append mt_append ho ha hbase hfew hline hs hplain) (mut_imp ok_append)
theorem qe_extend (ho : PE X a (tVar i)) (ha : PQN τ X (e :: es) n q) (hbase : attributeBase a "extend" X.env (eval a X.env) = eval a X.env := by rfl)
    (hfew : ((backTo pos (starEach (e :: es) X.env)).all (fun x => !x.1) && (backToKw pos (keywordEach [] X.env)).all (fun x => x.1.isSome) && decide ((e :: es).length + ([] : List Keyword).length + (if ([] : List Keyword).isEmpty then 0 else 1) < 30)) = true := by rfl)
    (hline : (apos.endLine == pos.line) = true := by rfl) (hs : starEach (e :: es) X.env = (false, eval e X.env) :: starEach es X.env := by rfl) (hplain : (backTo pos (starEach es X.env)).any (·.1) = false := by rfl) :
    PQ τ X (.Call (.Attribute a "extend" apos) (e :: es) [] pos) (qMut i q extendM) := pe_imp _ (pe_bm PySem.F.plainAttrs_list PySem.F.slot_list_extend PySem.F.type_list_extend mt_extA ho ha hbase hfew hline hs hplain) (mut_imp ok_extend)
theorem qe_popAt (ho : PE X a (tVar i)) (ha : PQN τ X (e :: es) n q) (hbase : attributeBase a "pop" X.env (eval a X.env) = eval a X.env := by rfl)
    (hfew : ((backTo pos (starEach (e :: es) X.env)).all (fun x => !x.1) && (backToKw pos (keywordEach [] X.env)).all (fun x => x.1.isSome) && decide ((e :: es).length + ([] : List Keyword).length + (if ([] : List Keyword).isEmpty then 0 else 1) < 30)) = true := by rfl)
    (hline : (apos.endLine == pos.line) = true := by rfl) (hs : starEach (e :: es) X.env = (false, eval e X.env) :: starEach es X.env := by rfl) (hplain : (backTo pos (starEach es X.env)).any (·.1) = false := by rfl) :
    PQ τ X (.Call (.Attribute a "pop" apos) (e :: es) [] pos) (qMut i q popAtM) := pe_imp _ (pe_bm PySem.F.plainAttrs_list PySem.F.slot_list_pop PySem.F.type_list_pop mt_popAt ho ha hbase hfew hline hs hplain) (mut_imp ok_popAt)
theorem qe_pop (ho : PE X a (tVar i)) (hbase : attributeBase a "pop" X.env (eval a X.env) = eval a X.env := by rfl) (hline : (apos.endLine == pos.line) = true := by rfl) :
    PQ τ X (.Call (.Attribute a "pop" apos) [] [] pos) (qMut i qaNil popM) := pe_imp _ (pe_bm0 PySem.F.plainAttrs_list PySem.F.slot_list_pop PySem.F.type_list_pop mt_pop ho hbase hline) (mut0_imp ok_pop)
end
end
/-! ### isinstance -/
def tyD : PyData → String
  | .none => "NoneType" | .bool _ => "bool" | .int _ => "int" | .str _ => "str" | .list _ => "list" | .tuple _ => "tuple" | .dict _ => "dict"
/-- isinstance(x, T), T one of the built-in classes -/
def isiB (T : String) (d : PyData) : Bool := decide (tyD d = T) || (decide (T = "int") && decide (tyD d = "bool"))
def isiD (T : String) : PyData → (PyData → Prop) → Prop := fun d P => match d with
  | .dict ((.tuple _, _) :: _) => False
  | d => P (.bool (isiB T d))
def Plain (T : String) : Prop := T = "str" ∨ T = "tuple" ∨ T = "int" ∨ T = "bool" ∨ T = "list" ∨ T = "dict"
theorem kit_plain (K : PySem.W.Frag) {T : String} (h : Plain T) : ∀ d : PyData, PySem.W.kitOne K (.type (tyD d)) (.type T) = some (isiB T d) := by
  rcases h with rfl | rfl | rfl | rfl | rfl | rfl <;> intro d <;> cases d <;> rfl
theorem ty_bo {K : PySem.W.Frag} {C H : Hp} {v : V} {d : PyData} (s : Same C H) (h : Bo w C H v d) (nd : ∀ x y r, d ≠ .dict ((.tuple x, y) :: r)) : TyX K H v (.type (tyD d)) := by
  cases h with
  | non => exact .base .non
  | bl b => exact .base (.bl b)
  | int i => exact .base (.int i)
  | str x => exact .base (.str x)
  | lst e _ => exact .base (.lst e)
  | tup e _ _ => exact .fTuple (s _ _ e)
  | dic e _ _ =>
    rcases e with e | ⟨o, e⟩
    · exact .base (.dK e)
    · exact .fDict e
  | @dicT a o u zs rds e dt ks hk ne ha =>
    cases rds with
    | nil => exact absurd rfl ne
    | cons r rds => exact absurd rfl (nd _ _ _)
def rIsi (K : PySem.W.Frag) (T : String) : RN := fun xs H Q => ∃ (x : V) (t : String) (b : Bool), xs = [x, .ty T] ∧ TyX K H x (.type t) ∧ PySem.W.kitOne K (.type t) (.type T) = some b ∧ Q (.bl b) H
theorem call_isiT {T : String} : CallR X (.builtin "isinstance") (rIsi X.K T) := by
  intro pins s σ H xs us Q I r h
  obtain ⟨x, t, b, rfl, ty, k, q⟩ := h
  exact call_isi pins s σ H _ us Q I r ⟨x, .ty T, _, _, _, rfl, .ty _, ty, k, q⟩
theorem isi_no {d : PyData} {T : String} {P : PyData → Prop} (h : isiD T d P) : (∀ x y r, d ≠ .dict ((.tuple x, y) :: r)) ∧ P (.bool (isiB T d)) := by
  unfold isiD at h
  split at h
  · exact False.elim h
  · rename_i hn
    exact ⟨fun x y r e => hn _ _ _ e, h⟩
theorem qe_isi {T : String} {tn : Str} {p2 : Pos} (hT : Plain T) (hg : Gl X "isinstance") (hm : X.mg "isinstance" = none) (h : PQ τ X e qa) (ht : PE X (.Name tn p2) (tC (.ty T)))
    (he : starEach [e, .Name tn p2] X.env = (false, eval e X.env) :: starEach [.Name tn p2] X.env := by rfl) (hs2 : starEach [.Name tn p2] X.env = (false, eval (.Name tn p2) X.env) :: starEach [] X.env := by rfl) (hpl : (backTo pos (starEach [.Name tn p2] X.env)).any (·.1) = false := by rfl) :
    PQ τ X (.Call (.Name "isinstance" p) [e, .Name tn p2] [] pos) (qUn (isiD T) qa) := by
  refine pe_imp _ (pe_callB (call_isiT (T := T)) hg hm boot_isinstance (pa_cons h (pa_cons ht pa_nil hs2) he) (by decide) (by decide) he hpl) ?_
  rintro σ H Q ⟨F, ρ, C, R, κ, k, z⟩
  refine ⟨F, ρ, C, R, _, k, fun d ρ1 v C1 H1 k1 s1 R1 d1 => ?_⟩
  obtain ⟨nd, k2⟩ := isi_no k1
  exact ⟨v, tyD d, _, rfl, ty_bo R1.sub (d1.bo R1.sub) nd, kit_plain X.K hT d, z _ _ _ _ _ k2 s1 R1 (.bl _)⟩
end
/-! ### repr -/
section
variable {X : Cx} {τ : Tb} {pins : List (Addr × Obj)} {σ : St} {H : Hp} {s : Shared}
theorem kv_reads {P : Program} {w : World} {h : Heap} : ∀ {es : List DictEntry} {kvs : List (Key × Value)} {ks : List (Key × V)}, PySem.Pairs (mixKind P w) es kvs → KV ks kvs →
    ReadsAll h (es.map (·.key)) (ks.map fun kv => keyD kv.1) [] ∧ Vals (ks.map (·.2)) (es.map (·.val))
  | _, _, _, .nil, .nil => ⟨.nil, .nil⟩
  | _, _, _, .cons (e := e) (kv := kv) h1 h2 t, .cons (a := k) r t' => by
    obtain ⟨q1, q2⟩ := kv_reads (h := h) t t'
    have hk : keyIs kv.1 e.key = true := h1
    rw [← r.1] at hk
    have rd : Reads h e.key (keyD k.1) [] := by
      rcases keyIs_shape hk with ⟨i, u, e1, e2⟩ | ⟨x, u, e1, e2⟩
      · rw [e1, e2]; exact .int i u
      · rw [e1, e2]; exact .str x u
    exact ⟨ReadsAll.cons (as := []) (bs := []) rd q1, .cons (show RelV k.2 e.val by rw [h2]; exact r.2) q2⟩
theorem map_fst2 {κ : Type} {f : κ → PyData} : ∀ (es : List (κ × PyData)), (es.map fun e => (f e.1, e.2)).map (·.1) = (es.map (·.1)).map f := fun es => by rw [List.map_map, List.map_map]; rfl
theorem map_snd2 {κ : Type} {f : κ → PyData} : ∀ (es : List (κ × PyData)), (es.map fun e => (f e.1, e.2)).map (·.2) = es.map (·.2) := fun es => by rw [List.map_map]; rfl
theorem Da.reads (I : Inv X pins σ H s) {v : V} {d : PyData} (h : Da X.w H v d) : d.hasDict = false → ∀ u : Value, RelV v u → ∃ as, Reads s.heap u d as := by
  refine Da.rec (motive_1 := fun v d _ => d.hasDict = false → ∀ u : Value, RelV v u → ∃ as, Reads s.heap u d as) (motive_2 := fun vs ds _ => PyData.hasDictAll ds = false → ∀ us : List Value, Vals vs us → ∃ as, ReadsAll s.heap us ds as)
    ?_ ?_ ?_ ?_ ?_ ?_ ?_ ?_ ?_ ?_ h
  · intro _ u r
    cases (show u = Value.none from r)
    exact ⟨[], .none⟩
  · intro b _ u r
    cases (show u = Value.bool b from r)
    exact ⟨[], .bool b⟩
  · intro i _ u r
    obtain ⟨t, rfl⟩ := (show ∃ t, u = Value.int i t from r)
    exact ⟨[], .int i t⟩
  · intro x _ u r
    obtain ⟨t, rfl⟩ := (show ∃ t, u = Value.str x t from r)
    exact ⟨[], .str x t⟩
  · intro a xs ds e n _ ih nd u r
    cases (show u = Value.ref a from r)
    obtain ⟨_, its, m, rv, ho⟩ := (show ObjOk X.prog X.w H s.heap a (.lst xs) from I.hok a _ e)
    obtain ⟨as, q⟩ := ih (by simpa only [PyData.hasDict] using nd) its rv
    exact ⟨a :: as, .list ho rfl rfl (by simpa using q)⟩
  · intro a ob xs ds e _ _ ih nd u r
    cases (show u = Value.ref a from r)
    obtain ⟨_, its, rv, o, ho, hc, m, hd⟩ := (show ObjOk X.prog X.w H s.heap a (.tup xs) from (I.hok a _ e).2)
    obtain ⟨as, q⟩ := ih (by simpa only [PyData.hasDict] using nd) its rv
    exact ⟨as, .tuple ho hc hd (by simpa using q)⟩
  · intro a ob kvs es e hk hall ih nd
    simp only [PyData.hasDict] at nd
    cases nd
  · intro a ob u zs rds e dt ks hk ne hall ih nd
    simp only [PyData.hasDict] at nd
    cases nd
  · intro _ us r
    cases r
    exact ⟨[], .nil⟩
  · intro v vs d ds _ _ i1 i2 nd us r
    simp only [PyData.hasDictAll, Bool.or_eq_false_iff] at nd
    cases r with
    | cons r1 r2 =>
      obtain ⟨as, q1⟩ := i1 nd.1 _ r1
      obtain ⟨bs, q2⟩ := i2 nd.2 _ r2
      exact ⟨as ++ bs, .cons q1 q2⟩
/-- data that repr shows: what is shown has at most n signs, nested at most k deep -/
structure Shows (d : PyData) (n k : Nat) : Prop where
  can : d.showable = true
  few : d.shown.length ≤ n
  flat : d.depth ≤ k
  nodict : d.hasDict = false
abbrev Fits (d : PyData) : Prop := Shows d 16000000 60
end
section
variable {X : Cx} {τ : Tb} {pos p : Pos} {e : Expr} {q : QE}
end
end L2.Pu

set_option Elab.async false
set_option linter.all false
set_option maxRecDepth 100000
set_option maxHeartbeats 4000000
/-! ## sorted(xs, key=lambda r: (len(r), r)), the items tuples of texts -/
namespace L2.Pu
open PySem PySem.Spec PyProof.Rows
abbrev keyBody (y : Str) (p1 p2 p3 p4 p5 : Pos) (k : Nat) : Expr := .Tuple [.Call (.Name "len" p1) [.Name y p2] [] p3, .Name y p4] k p5
/-- the lambda's names: its own one is a local, len is global -/
structure KeySc (y : Str) (scope : Scope) : Prop where
  kind : scope.kind = .function
  co : scope.isCoroutine = false
  gen : scope.isGenerator = false
  cells : ∀ x ∈ scope.names, x.2 ≠ .cell
  free : ∀ x ∈ scope.names, x.2 ≠ .free
  own : scope.names.lookup y = some .local
  len : scope.names.lookup ("len" : Str) = some .globalImplicit
section
variable {X : Cx} {pins : List (Addr × Obj)} {σ : St} {H : Hp} {s : Shared}
end
section
variable {X : Cx} {τ : Tb} {pins : List (Addr × Obj)} {σ : St} {H : Hp} {s : Shared}
/-- a def's own table of code objects: the one of its code object c is at P, and it is known -/
structure OwnTab (τ : Tb) (X : Cx) (c P : Addr) : Prop where
  tab : LamX.TabB X.base X.mg c P
  code : X.env.code = .ref c
  mem : (P, X.env.qual ++ "<lambda>") ∈ τ
  uni : ∀ p ∈ τ, p.1 = P → p.2 = X.env.qual ++ "<lambda>"
end
section
variable {X : Cx} {τ : Tb} {pos p kpos lpos : Pos} {e : Expr}
def tupS (r : List Str) : PyData := .tuple (r.map PyData.str)
end
end L2.Pu
/-! ## sorted(xs, key=f), where f is a def: return (len(r), r) -/
namespace L2.Pu
open PySem PySem.Spec PyProof.Rows
/-- a def that returns the length and the tuple -/
structure KeyDef (K : PySem.W.Frag) (mg : Str → Option Value) (x : Str) : Prop where
  ex : ∃ (f : Addr) (fd : FuncData) (st : Stmt) (y : Str) (p1 p2 p3 p4 p5 p6 : Pos) (k : Nat), Fun K x x st f fd ∧ mg x = some (.ref f) ∧ KeySc y (defScope st) ∧ defBody st = [.Return (some (keyBody y p1 p2 p3 p4 p5 k)) p6] ∧ Binds K fd [y] [] ∧ (y == ("__debug__" : Str)) = false
section
variable {X : Cx} {pins : List (Addr × Obj)} {σ : St} {H : Hp} {s : Shared}
end
section
variable {X : Cx} {τ : Tb} {pos p kpos npos : Pos} {e : Expr}
end
end L2.Pu

set_option Elab.async false
set_option linter.all false
set_option maxRecDepth 100000
set_option maxHeartbeats 4000000
/-! ## Dicts with whole numbers and texts as keys; sets of texts -/
namespace L2.Pu
open PySem PySem.Spec PyProof.Rows
def keyOf : PyData → Option Key
  | .int i => some (.inl i)
  | .str x => some (.inr x)
  | _ => none
def getD (kvs : List (PyData × PyData)) (k : Key) : Option PyData := (kvs.find? fun e => decide (keyOf e.1 = some k)).map (·.2)
section
variable {X : Cx} {τ : Tb} {pos p pos' : Pos} {a b e : Expr} {qa qb qv : QE} {i : Nat}
theorem Bo.key {C H : Hp} {x : V} {d : PyData} {k : Key} (h : Bo w C H x d) (e : keyOf d = some k) : x = kV k := by
  cases h <;> cases e <;> rfl
/-! ### own dicts -/
/-! ### own sets of texts -/
end
end L2.Pu

set_option Elab.async false
set_option linter.all false
set_option maxRecDepth 100000
set_option maxHeartbeats 4000000
/-! ## set.add; dict() of pairs -/
namespace L2.Pu
open PySem PySem.Spec PyProof.Rows
section
variable {X : Cx} {τ : Tb} {pos p apos cpos : Pos} {o e : Expr} {es : List Expr} {q : QE} {i : Nat}
/-! ### dict(pairs) -/
end
end L2.Pu

set_option Elab.async false
set_option linter.all false
set_option maxRecDepth 100000
set_option maxHeartbeats 4000000
/-! ## a, b, c = x, y, z, of data and new own things -/
namespace L2.Pu
open PySem PySem.Spec PyProof.Rows
inductive MArg where
  | e (q : QE)
  | f (q : QF)
/-- values that are data, or new own things, all apart -/
inductive MxAll (T : PK) (F : Fm) (ρ : Ro) (C : Hp) (σ : St) (H : Hp) : List V → List Slot → List Addr → Prop
  | nil : MxAll T F ρ C σ H [] [] []
  | val {v : V} {d : PyData} {vs : List V} {ss : List Slot} {ps : List Addr} : Da T.w C v d → MxAll T F ρ C σ H vs ss ps → MxAll T F ρ C σ H (v :: vs) (.val d :: ss) ps
  | own {p : Addr} {o : Own} {vs : List V} {ss : List Slot} {ps : List Addr} : OwnAt T C H p o → Fresh F ρ C σ p → (∀ q ∈ F.refs, q.2 ≠ p) → p ∉ ps → MxAll T F ρ C σ H vs ss ps → MxAll T F ρ C σ H (.ref p :: vs) (.own false o :: ss) (p :: ps)
section
variable {T : PK} {F : Fm} {ρ : Ro} {C : Hp} {σ : St} {H : Hp} {i : Nat} {p : Addr}
theorem MxAll.len {vs : List V} {ss : List Slot} {ps : List Addr} (m : MxAll T F ρ C σ H vs ss ps) : vs.length = ss.length := by
  induction m with
  | nil => rfl
  | val _ _ ih => rw [List.length_cons, List.length_cons, ih]
  | own _ _ _ _ _ ih => rw [List.length_cons, List.length_cons, ih]
theorem MxAll.unguard {u : HO} {vs : List V} {ss : List Slot} {ps : List Addr} (m : MxAll T (F.guard p u) ρ C σ H vs ss ps) : MxAll T F ρ C σ H vs ss ps ∧ p ∉ ps := by
  have low : ∀ b, Fresh (F.guard p u) ρ C σ b → Fresh F ρ C σ b ∧ b ≠ p := fun b f => by
    have h : upd F.H0 p u b = none := f.start
    have ne : b ≠ p := fun e => by rw [e, upd_same] at h; cases h
    rw [upd_ne ne] at h
    exact ⟨⟨f.core, h, f.owned⟩, ne⟩
  induction m with
  | nil => exact ⟨.nil, fun z => nomatch z⟩
  | val d _ ih => exact ⟨.val d ih.1, ih.2⟩
  | own w f r n _ ih => exact ⟨.own w (low _ f).1 r n ih.1, fun z => (List.mem_cons.mp z).elim (fun e => (low _ f).2 e.symm) ih.2⟩
end
section
variable {X : Cx} {τ : Tb} {e : Expr} {es : List Expr} {as : List MArg}
theorem MxAll.stored {T : PK} {F : Fm} {ρ : Ro} {C : Hp} {σ : St} {H : Hp} {i : Nat} {v : V} {s : Slot} {vs : List V} {ss : List Slot} {ps : List Addr} (m : MxAll T F ρ C σ H vs ss ps) (h : ∀ p ∈ ps, ∀ r o, s = .own r o → v ≠ .ref p) : MxAll T F (ρ.set i s) C (σ.set i (some v)) H vs ss ps := by
  have low : ∀ b, Fresh F ρ C σ b → (∀ r o, s = .own r o → v ≠ .ref b) → Fresh F (ρ.set i s) C (σ.set i (some v)) b := fun b f n => ⟨f.core, f.start, fun j r o hj hv => by
    rcases getElem?_set' hj with ⟨rfl, e, hl⟩ | ⟨ne, hj⟩
    · by_cases hs : j < σ.length
      · rw [List.getElem?_set_self hs] at hv
        exact n r o e.symm (by cases hv; rfl)
      · rw [List.getElem?_eq_none (by simpa using hs)] at hv; cases hv
    · rw [List.getElem?_set_ne (Ne.symm ne)] at hv
      exact f.owned j r o hj hv⟩
  induction m with
  | nil => exact .nil
  | val d _ ih => exact .val d (ih h)
  | own w f r n _ ih => exact .own w (low _ f (h _ List.mem_cons_self)) r n (ih fun p hp => h p (List.mem_cons_of_mem _ hp))
section
variable {x y z : Str} {i j l : Nat} {a b c : Expr} {px py pz pt pos pt2 : Pos} {kt k2 : Nat}
end
/-! ### .. with more names, or names of cells: by a tuple -/
end
end L2.Pu
/-! ## raise (never reached), sets of texts -/
namespace L2.Pu
open PySem PySem.Spec PyProof.Rows
section
variable {X : Cx} {τ : Tb} {pos p : Pos} {e : Expr} {q : QE} {qf : QF}
def qNo : QS := fun _ _ => False
def rSetOf (K : PySem.W.Frag) (P : Program) (w : World) : List V → Hp → VK → Prop := fun xs H Q => Fu.rSetOfL K P w xs H Q ∨ Fu.rSetOfT K P w xs H Q
theorem cr_setOf (hc : X.calm = true) : CallR X (.type "set") (rSetOf X.K X.prog X.w) := fun pins s σ H xs us Q I r h => h.elim (Fu.cr_setOfL hc pins s σ H xs us Q I r) (Fu.cr_setOfT hc pins s σ H xs us Q I r)
def textsD : PyData → List Str → Prop := fun d ts => d = .list (ts.map PyData.str) ∨ d = .tuple (ts.map PyData.str)
/-- set(e), e a list or a tuple of texts -/
def qfSetOf (q : QE) : QF := fun ρ κ => q ρ fun d ρ1 => ∃ ts, textsD d ts ∧ ts.length < 1000 ∧ κ (.set (Fu.allL ts)) ρ1
theorem qf_setOf (hc : X.calm = true) (hg : Gl X "set") (hm : X.mg "set" = none) (h : PQ τ X e q) (he : starEach [e] X.env = (false, eval e X.env) :: starEach [] X.env := by rfl) (hpl : (backTo pos (starEach [] X.env)).any (·.1) = false := by rfl) :
    PQF τ X (.Call (.Name "set" p) [e] [] pos) (qfSetOf q) := by
  refine pe_imp _ (pe_callTy (cr_setOf hc) hg hm (by decide +kernel) (pa_cons h pa_nil he) (by decide) (by decide) he hpl) ?_
  rintro σ H Q ⟨F, ρ, C, R, κ, k, z⟩
  refine ⟨F, ρ, C, R, _, k, fun d ρ1 v C1 H1 k1 s1 R1 d1 => ?_⟩
  obtain ⟨ts, td, hl, k1⟩ := k1
  have sb : ts.length + 1 < scanBound := by unfold scanBound; omega
  rcases td with rfl | rfl
  · cases d1 with
    | @lst a xs ds ea na ha =>
      rw [strs_of ha] at ea
      refine .inl ⟨a, ts, rfl, SqL.of (R1.sub _ _ ea), sb, fun p np => ?_⟩
      exact z _ _ _ _ _ k1 s1 (R1.layH np) upd_same (R1.new_fresh np) (R1.ref_ne np)
  · cases d1 with
    | @tup a oa xs ds ea na ha =>
      rw [strs_of ha] at ea
      refine .inr ⟨a, ts, rfl, sqF (R1.sub _ _ ea), sb, fun p np => ?_⟩
      exact z _ _ _ _ _ k1 s1 (R1.layH np) upd_same (R1.new_fresh np) (R1.ref_ne np)
/-- sorted(e), e a new set of texts -/
def qfSortF (qf : QF) : QF := fun ρ κ => qf ρ fun o ρ1 => match o with
  | .set l => l.length < 64 ∧ κ (.lst ((sortS l).map PyData.str)) ρ1
  | _ => False
theorem qf_sortOf (hc : X.calm = true) (hg : Gl X "sorted") (hm : X.mg "sorted" = none) (h : PQF τ X e qf) (he : starEach [e] X.env = (false, eval e X.env) :: starEach [] X.env := by rfl) (hpl : (backTo pos (starEach [] X.env)).any (·.1) = false := by rfl) :
    PQF τ X (.Call (.Name "sorted" p) [e] [] pos) (qfSortF qf) := by
  refine pe_imp _ (pe_callB (Fu.cr_sortT hc) hg hm (by decide +kernel) (pa_cons h pa_nil he) (by decide) (by decide) he hpl) ?_
  rintro σ H Q ⟨F, ρ, C, R, κ, k, z⟩
  refine ⟨F, ρ, C, R, _, k, fun o ρ1 p' C1 H1 k1 s1 R1 ow fr rn => ?_⟩
  cases o with
  | set l =>
    refine ⟨p', l, rfl, ow, k1.1, fun ys q py sy nq => ?_⟩
    rw [sortS_of py sy] at *
    exact z _ _ _ _ _ k1.2 s1 (R1.layH nq) ⟨_, upd_same, da_strs _⟩ (R1.new_fresh nq) (R1.ref_ne nq)
  | _ => exact False.elim k1
end
end L2.Pu

set_option Elab.async false
set_option linter.all false
set_option maxRecDepth 100000
set_option maxHeartbeats 4000000
/-! ## The law's hand: a number and a count, from which it draws -/
namespace L2.Fu
open PySem PySem.Spec PyProof.Rows

/-- at p stands a hand of which at most n draws were taken; all of H0, where p is not, stands as it was -/
def Hand (H0 H : Hp) (p : Addr) (n : Nat) : Prop := Same H0 H ∧ H0 p = none ∧ ∃ g a c : Int, H p = some (.lst [.int g, .int a, .int c]) ∧ 0 ≤ a ∧ a < 2147483647 ∧ 0 ≤ c ∧ c ≤ (n : Int)
theorem Hand.at {H0 H : Hp} {p : Addr} {n : Nat} (h : Hand H0 H p n) : ∃ xs, H p = some (.lst xs) := by
  obtain ⟨_, _, g, a, c, e, _⟩ := h
  exact ⟨_, e⟩
theorem Hand.ne {H0 H : Hp} {p q : Addr} {n : Nat} (h : Hand H0 H p n) (f : H q = none) : q ≠ p := by
  obtain ⟨_, e⟩ := h.at
  exact fun z => by rw [z, e] at f; cases f
theorem Hand.mono {H0 H : Hp} {p : Addr} {m n : Nat} (h : Hand H0 H p m) (l : m ≤ n) : Hand H0 H p n := by
  obtain ⟨s, z, g, a, c, e, a0, a1, c0, c1⟩ := h
  exact ⟨s, z, g, a, c, e, a0, a1, c0, by omega⟩
/-- an object elsewhere is laid or changed: it is told -/
theorem Hand.upd {H0 H : Hp} {p q : Addr} {n : Nat} {o : HO} (h : Hand H0 H p n) (ne : q ≠ p) : Hand (upd H0 q o) (upd H q o) p n := by
  obtain ⟨s, z, g, a, c, e, r⟩ := h
  refine ⟨fun b u k => ?_, by rw [upd_ne (Ne.symm ne)]; exact z, g, a, c, by rw [upd_ne (Ne.symm ne)]; exact e, r⟩
  by_cases hb : b = q
  · subst hb
    rw [upd_same] at k ⊢
    exact k
  · rw [upd_ne hb] at k ⊢
    exact s b u k
/-- an object elsewhere that H0 doesn't tell of is laid or changed -/
theorem Hand.off {H0 H : Hp} {p q : Addr} {n : Nat} {o : HO} (h : Hand H0 H p n) (ne : q ≠ p) (f : H0 q = none) : Hand H0 (L2.upd H q o) p n := by
  obtain ⟨s, z, g, a, c, e, r⟩ := h
  refine ⟨fun b u k => ?_, z, g, a, c, by rw [upd_ne (Ne.symm ne)]; exact e, r⟩
  have hb : b ≠ q := fun t => by rw [t, f] at k; cases k
  rw [upd_ne hb]
  exact s b u k
/-- an object elsewhere is told of -/
theorem Hand.own {H0 H : Hp} {p q : Addr} {n : Nat} {o : HO} (h : Hand H0 H p n) (ne : q ≠ p) (f : H q = some o) : Hand (L2.upd H0 q o) H p n := by
  obtain ⟨s, z, r⟩ := h
  refine ⟨fun b u k => ?_, by rw [upd_ne (Ne.symm ne)]; exact z, r⟩
  by_cases hb : b = q
  · subst hb
    rw [upd_same] at k
    rw [f]
    exact k
  · rw [upd_ne hb] at k
    exact s b u k
theorem same_new {H : Hp} {q : Addr} {o : HO} (f : H q = none) : Same H (upd H q o) := fun b u k => by
  rw [upd_ne (ne_of_none k f)]
  exact k
/-- _law_take(hand, m) -/
def spTake : Sp := fun vs H Q _ => ∃ (H0 : Hp) (p : Addr) (n : Nat) (m : Int), vs = [.ref p, .int m] ∧ 0 < m ∧ m < 2 ^ 60 ∧ n < 1000000000 ∧ Hand H0 H p n ∧ ∀ (H' : Hp) (d : Int), 0 ≤ d → d < m → Hand H0 H' p (n + 1) → Q (.int d) H'
/-- _law_of(hand, some) -/
def spOf (K : PySem.W.Frag) : Sp := fun vs H Q _ => ∃ (H0 : Hp) (p l : Addr) (n : Nat) (xs : List V), vs = [.ref p, .ref l] ∧ SqL K H0 l xs ∧ xs ≠ [] ∧ xs.length ≤ 1000000 ∧ n < 1000000000 ∧ Hand H0 H p n ∧ ∀ (H' : Hp) (v : V), v ∈ xs → Hand H0 H' p (n + 1) → Q v H'

theorem bit_small (b : Bool) : -(2 ^ 64) < (if b = true then (1 : Int) else 0) ∧ (if b = true then (1 : Int) else 0) < 2 ^ 64 := by cases b <;> decide
theorem big_pos : (0 : Int) < (10 : Int) ^ (60 : Int).toNat * (10 : Int) ^ (60 : Int).toNat * (10 : Int) ^ (60 : Int).toNat := by decide +kernel
theorem big_one : ((10 : Int) ^ (60 : Int).toNat).natAbs < 2 ^ 200 := by decide +kernel
theorem big_two : ((10 : Int) ^ (60 : Int).toNat * (10 : Int) ^ (60 : Int).toNat).natAbs < 2 ^ 400 := by decide +kernel
theorem prime_at (c : Int) (h0 : 0 ≤ c) : ∃ pr : Int, atI [V.int 2147483647, V.int 2147483629, V.int 2147483587, V.int 2147483579, V.int 2147483563] (c % 5) = some (V.int pr) ∧ 0 < pr ∧ pr < 2 ^ 32 := by
  have l0 : 0 ≤ c % 5 := Int.emod_nonneg _ (by decide)
  have l1 : c % 5 < 5 := Int.emod_lt_of_pos _ (by decide)
  generalize c % 5 = i at l0 l1
  obtain ⟨j, rfl⟩ := Int.eq_ofNat_of_zero_le l0
  have lj : j < 5 := by omega
  match j, lj with
  | 0, _ => exact ⟨2147483647, atI_nat rfl, by decide, by decide⟩
  | 1, _ => exact ⟨2147483629, atI_nat rfl, by decide, by decide⟩
  | 2, _ => exact ⟨2147483587, atI_nat rfl, by decide, by decide⟩
  | 3, _ => exact ⟨2147483579, atI_nat rfl, by decide, by decide⟩
  | 4, _ => exact ⟨2147483563, atI_nat rfl, by decide, by decide⟩
theorem small_pow {a c : Int} {n : Nat} (a0 : 0 ≤ a) (a1 : a < 2147483647) (c0 : 0 ≤ c) (c1 : c ≤ (n : Int)) (hn : n < 1000000000) : (a + 7919 * (c + 1)).natAbs < 2 ^ 64 := by omega
end L2.Fu
namespace L2.Fu
open PySem PySem.Spec PyProof.Rows
/-- a reading may be made stronger -/
theorem pe_imp {X : Cx} {e : Expr} {t : TE} (t' : TE) (p : PE X e t) (h : ∀ σ H Q, t' σ H Q → t σ H Q) : PE X e t' := ⟨fun pins s σ H Q I q => p.run pins s σ H Q I (h σ H Q q)⟩
/-- script[k] if k < len(script) else 0: some int -/
def tCell (K : PySem.W.Frag) : TE := fun σ H Q => ∃ (a : Addr) (ns : List Int) (k : Int), σ[0]? = some (some (.ref a)) ∧ σ[1]? = some (some (.int k)) ∧ SqL K H a (ns.map V.int) ∧ 0 ≤ k ∧ ∀ c : Int, Q (.int c) H
theorem atI_in {α : Type} {xs : List α} {i : Int} (h0 : 0 ≤ i) (h1 : i < (xs.length : Int)) : ∃ v, atI xs i = some v ∧ v ∈ xs := by
  obtain ⟨j, rfl⟩ := Int.eq_ofNat_of_zero_le h0
  have lj : j < xs.length := by omega
  exact ⟨xs[j], atI_nat (List.getElem?_eq_getElem lj), List.getElem_mem lj⟩
end L2.Fu
/-! ## The law's hand -/
namespace L2.Pu
open PySem PySem.Spec PyProof.Rows
/-- no new table -/
def NT (H H' : Hp) : Prop := ∀ b ps, H' b = some (.tbl ps) → H b = some (.tbl ps)
theorem Rep.more {T : PK} {F : Fm} {ρ : Ro} {C : Hp} {σ : St} {H H' : Hp} (R : Rep T F ρ C σ H) (s : Same H H') (n : NT H H') : Rep T F ρ C σ H' := by
  refine ⟨R.c0, same_trans R.sub s, fun b o k nk hr => s _ _ (R.keep b o k nk hr), R.tbl, fun b ps k => R.htb b ps (n b ps k), R.ctab, R.tabs.ext s, R.new, fun q hq => ?_, R.sys, R.len, fun i t ht => ?_, R.apart⟩
  · obtain ⟨o, ho⟩ := R.refd q hq
    exact ⟨o, s _ _ ho⟩
  · refine (R.slot i t ht).mono (same_refl _) fun p _ hc hn => ⟨hc, ?_⟩
    cases e : H p with
    | none => exact absurd e hn
    | some o => exact s _ _ e
/-- _law_hand(script, k) -/
def spHandN (K : PySem.W.Frag) : Sp := fun vs H Q _ => ∃ (a : Addr) (ns : List Int) (k : Int), vs = [.ref a, .int k] ∧ SqL K H a (ns.map V.int) ∧ 0 ≤ k ∧ k ≤ 1000 ∧ ∀ (p : Addr) (g a : Int), H p = none → 0 ≤ a → a < 2147483647 → Q (.ref p) (upd H p (.lst [.int g, .int a, .int 0]))
/-- _law_take(hand, m) -/
def spTakeN : Sp := fun vs H Q _ => ∃ (p : Addr) (g a c m : Int), vs = [.ref p, .int m] ∧ 0 < m ∧ m < 2 ^ 60 ∧ H p = some (.lst [.int g, .int a, .int c]) ∧ 0 ≤ a ∧ a < 2147483647 ∧ 0 ≤ c ∧ c < 900000000 ∧
  ∀ (H' : Hp) (d g' c' : Int), 0 ≤ d → d < m → (∀ b o, b ≠ p → H b = some o → H' b = some o) → NT H H' → H' p = some (.lst [.int g', .int a, .int c']) → 0 ≤ c' → c' ≤ c + 1 → Q (.int d) H'
def spTake : PSp := fun ss κ => match ss with
  | [.own true (.hand (b + 1)), .val (.int m)] => 0 < m ∧ m < 1000000000 ∧ ∀ x : Int, 0 ≤ x → x < m → κ (.int x) [.own true (.hand b), .un]
  | _ => False
section
variable {P : Program} {w : World} {K : PySem.W.Frag} {mg : Str → Option Value} {base : Heap} {τ : Tb}
theorem FnG.imp {CX : CXT} {k : Nat} {f : Addr} {fd : FuncData} {ps : List Str} {sp sp' : Sp} (F : Fu.FnG P w K mg base CX k f fd ps sp) (h : ∀ vs H Q E, sp' vs H Q E → sp vs H Q E) : Fu.FnG P w K mg base CX k f fd ps sp' :=
  ⟨fun vs H Q E q => F.len vs H Q E (h _ _ _ _ q), fun A outer s H args us vs Q E gd hr e b v q => F.go A outer s H args us vs Q E gd hr e b v (h _ _ _ _ q)⟩
theorem take_imp {T : PK} : ∀ vs H Q E, liftP T spTake vs H Q E → spTakeN vs H Q E := by
  rintro vs H Q E ⟨C, ss, R, κ, h, z⟩
  unfold spTake at h
  split at h
  · rename_i b m
    have l := R.len
    rw [List.length_map] at l
    match vs, l, R, z with
    | [v1, v2], _, R, z =>
      obtain ⟨p, e1, cp, g, a, c, hp, a0, a1, c0, c1⟩ := Rep.own (i := 0) R rfl
      obtain ⟨x, e2, dx⟩ := Rep.val (i := 1) R rfl
      cases e1; cases e2; cases dx
      refine ⟨p, g, a, c, m, rfl, h.1, Int.lt_trans h.2.1 (by decide), hp, a0, a1, c0, by omega, fun H' d g' c' d0 d1 ke nt hp' c0' c1' => ?_⟩
      refine z _ _ _ C _ (h.2.2 d d0 d1) (same_refl _) ?_ (.int d)
      have w : OwnAt T C (upd H p (.lst [.int g', .int a, .int c'])) p (.hand b) := ⟨g', a, c', upd_same, a0, a1, c0', by omega⟩
      have R1 := Rep.write (i := 0) R rfl rfl w
      have R2 := R1.forget (i := 1) (some (.int m))
      refine Rep.more R2 (fun q o hq => ?_) fun q ps hq => ?_
      · by_cases e : q = p
        · subst e; rw [upd_same] at hq; cases hq; exact hp'
        · rw [upd_ne e] at hq; exact ke q o e hq
      · by_cases e : q = p
        · subst e; rw [hp'] at hq; cases hq
        · rw [upd_ne e]; exact nt q ps hq
  · exact False.elim h
theorem pfn_take {k : Nat} {f : Addr} {fd : FuncData} {x : Str} {ps : List Str} (F : Fu.FnG P w K mg base CX0 k f fd ps spTakeN) (hm : mg x = some (.ref f)) (hk : PySem.W.keepIn K (.ref f) = true) (hb : Binds K fd ps []) (lk : ∃ (oc : Value) (od : Option Addr) (osl : Array (Option Value)), K.lookup f = some ⟨oc, od, .func fd, osl⟩) : PFn τ P w K mg base k x ps spTake := ⟨f, fd, FnG.imp F take_imp, hm, hk, hb, lk⟩
end
section
variable {X : Cx} {τ : Tb} {pos p : Pos} {e e1 e2 : Expr} {i : Nat} {q : QE}
/-- hand(script, k) -/
def qfHand (i : Nat) (q : QE) : QF := fun ρ κ => (∃ ns, ρ[i]? = some (.scr ns)) ∧ q ρ fun d ρ1 => match d, ρ1[i]? with
  | .int k, some (.scr _) => 0 ≤ k ∧ k ≤ 1000 ∧ κ (.hand 900000000) ρ1
  | _, _ => False
structure PFnH (P : Program) (w : World) (K : PySem.W.Frag) (mg : Str → Option Value) (base : Heap) (k : Nat) (x : Str) (ps : List Str) : Prop where
  ex : ∃ f fd, Fu.FnG P w K mg base CX0 k f fd ps (spHandN K) ∧ mg x = some (.ref f) ∧ PySem.W.keepIn K (.ref f) = true ∧ Binds K fd ps []
theorem qf_hand {k : Nat} {x : Str} {ps : List Str} (G : PFnH X.prog X.w X.K X.mg X.base k x ps) (gd : X.A.guards = some []) (hr : Room k X.A) (hg : Gl X x) (h1 : PE X e1 (tVar i)) (h2 : PQ τ X e2 q)
    (hdb : (x == ("__debug__" : Str)) = false := by decide) (he : starEach [e1, e2] X.env = (false, eval e1 X.env) :: starEach [e2] X.env := by rfl) (he2 : starEach [e2] X.env = (false, eval e2 X.env) :: starEach [] X.env := by rfl) (hpl : (backTo pos (starEach [e2] X.env)).any (·.1) = false := by rfl) :
    PQF τ X (.Call (.Name x p) [e1, e2] [] pos) (qfHand i q) := by
  obtain ⟨f, fd, F, hm, hk, hb⟩ := G.ex
  have pass : Passes CX0 X (fun _ _ _ => False) := fun _ _ _ _ _ _ _ h => h.elim
  refine pe_imp _ (Fu.pe_callG F gd hr hg hm hk hb .nil (E := fun _ _ _ => False) pass (pa_cons h1 (pa_cons h2 pa_nil he2) he) hdb he hpl) ?_
  rintro σ H Q ⟨F, ρ, C, R, κ, ⟨⟨ns, k0⟩, k⟩, z⟩
  obtain ⟨a, ha, sq⟩ := R.slot i _ k0
  refine ⟨_, ha, F, ρ, C, R, _, k, fun d ρ1 v C1 H1 k1 s1 R1 d1 => ?_⟩
  cases d1 with
  | int j =>
    split at k1
    · rename_i j' ns' e0 e1
      cases e0
      obtain ⟨a', ha', sq'⟩ := R1.slot i _ e1
      rw [ha] at ha'; cases ha'
      refine ⟨a, ns', j, rfl, SqL.mono' R1.sub sq', k1.1, k1.2.1, fun p g c np c0 c1 => ?_⟩
      exact z _ _ _ _ _ k1.2.2 s1 (R1.layH np) ⟨g, c, 0, upd_same, c0, c1, Int.le_refl _, by decide⟩ (R1.new_fresh np) (R1.ref_ne np)
    · exact False.elim k1
  | _ => exact False.elim k1
/-- len(script) -/
def qLenScr (i : Nat) : QE := fun ρ κ => match ρ[i]? with
  | some (.scr ns) => κ (.int (ns.length : Nat)) ρ
  | _ => False
theorem qe_lenScr (hg : Gl X "len") (hm : X.mg "len" = none) (h : PE X e (tVar i)) (he : starEach [e] X.env = (false, eval e X.env) :: starEach [] X.env := by rfl) (hpl : (backTo pos (starEach [] X.env)).any (·.1) = false := by rfl) : PQ τ X (.Call (.Name "len" p) [e] [] pos) (qLenScr i) := by
  refine pe_imp _ (pe_callB call_len hg hm PySem.boot_len (pa_cons h pa_nil he) (by decide) (by decide) he hpl) ?_
  rintro σ H Q ⟨F, ρ, C, R, κ, k, z⟩
  unfold qLenScr at k
  split at k
  · rename_i ns e0
    obtain ⟨a, ha, sq⟩ := R.slot i _ e0
    exact ⟨_, ha, _, _, rfl, .inl ⟨_, SqL.mono' R.sub sq, rfl⟩, z _ _ _ _ _ k (same_refl _) R (by rw [List.length_map]; exact .int _)⟩
  · exact False.elim k
end
end L2.Pu

set_option Elab.async false
set_option linter.all false
set_option maxRecDepth 100000
set_option maxHeartbeats 4000000
/-! ## Defs, with what is known of their code object -/
namespace L2.Pu
open PySem PySem.Spec PyProof.Rows
theorem apart_of {as : List CArg} (h : (refsOf as).Nodup) : Apart as := by
  induction as with
  | nil => intro k l j hk; simp at hk
  | cons a as ih =>
    intro k l j hk hl
    have tail : (refsOf as).Nodup := by
      cases a with
      | e q => exact h
      | r m => exact (List.nodup_cons.mp h).2
    cases k with
    | zero =>
      cases l with
      | zero => rfl
      | succ l =>
        simp at hk; subst hk
        exact absurd (mem_refsOf (by simpa using hl)) (List.nodup_cons.mp h).1
    | succ k =>
      cases l with
      | zero =>
        simp at hl; subst hl
        exact absurd (mem_refsOf (by simpa using hk)) (List.nodup_cons.mp h).1
      | succ l => rw [ih tail k l j (by simpa using hk) (by simpa using hl)]
section
variable {X : Cx} {τ : Tb} {i : Nat} {x : Str} {pos : Pos}
/-- the truth of a name -/
def qTruN (i : Nat) : QT := fun ρ κ => match datAt ρ i with
  | some d => match truD d with
    | some b => κ b ρ
    | none => False
  | none => False
theorem qt_truN (h : PE X (.Name x pos) (tVar i)) (he : ∀ whole, isTrue (.Name x pos) X.env whole = (do let v ← whole; standAt (Expr.Name x pos).pos; holding [v] (truthy v)) := by intro _; rfl) : PQT τ X (.Name x pos) (qTruN i) := by
  refine pt_imp _ (pt_truth h he) ?_
  rintro σ H Q ⟨F, ρ, C, R, κ, k, z⟩
  unfold qTruN at k
  split at k
  · rename_i d e0
    obtain ⟨v, hv, b⟩ := R.bo e0
    refine ⟨v, hv, ?_⟩
    cases b with
    | non => exact ⟨false, rfl, z _ _ _ _ k (same_refl _) R⟩
    | bl b => exact ⟨b, rfl, z _ _ _ _ k (same_refl _) R⟩
    | int i => exact ⟨i != 0, rfl, z _ _ _ _ k (same_refl _) R⟩
    | str x => exact False.elim k
    | lst e da => exact ⟨_, .inl ⟨_, SqL.of e, by rw [isE da]⟩, z _ _ _ _ k (same_refl _) R⟩
    | tup e _ da => exact ⟨_, .inr (.inl ⟨_, sqF (R.sub _ _ e), by rw [isE da]⟩), z _ _ _ _ k (same_refl _) R⟩
    | dic => exact False.elim k
    | dicT => exact False.elim k
  · exact False.elim k
end
section
variable {P : Program} {w : World} {K : PySem.W.Frag} {mg : Str → Option Value} {base : Heap} {τ : Tb}
/-- cdv is the code of the def at f -/
def CodeIs (K : PySem.W.Frag) (f : Addr) (cdv : Value) : Prop := ∀ (oc : Value) (od : Option Addr) (x q : Str) (ar : Arguments) (bd : List Stmt) (sc : Scope) (dV kV dc pm cd ct : Value) (an : Option Addr) (sl : Array (Option Value)),
  K.lookup f = some ⟨oc, od, .func (PySem.W.fnOf x q ar bd sc dV kV dc pm an cd ct), sl⟩ → cd = cdv
theorem okGC {x qual : Str} {st : Stmt} {f : Addr} {fd : FuncData} {N ps : List Str} {k : Nat} {sp : Sp} (F : Fun K x qual st f fd) (S : FnScope N ps (defScope st)) (len : ∀ vs H Q E, sp vs H Q E → vs.length = ps.length)
    (body : ∀ (cdv : Value) (A : Around) (outer : List Env) (s : Shared) (H : Hp) (vs : List V) (Q : VK) (E : XK), CodeIs K f cdv → (A.deeper (envOfC qual (defScope st) s.heap.objs.size f cdv)).guards = some [] →
      Room k (A.deeper (envOfC qual (defScope st) s.heap.objs.size f cdv)) → sp vs H Q E →
      ∃ t, PSs (cxOf CX0 P w K mg base N qual (defScope st) f cdv A outer s H E).nox (defBody st) t ∧ t { nx := fun _ H' => Q .non H', rt := Q } (start N vs) H) : Fu.FnG P w K mg base CX0 (k + 1) f fd ps sp := by
  obtain ⟨oc, od, kV, doc, pm, an, cdv, ct, osl, rfl, lk, hcd⟩ := F.ex
  have code : CodeIs K f cdv := fun oc' od' x' q' ar' bd' sc' dV' kV' dc' pm' cd' ct' an' sl' lk' => by
    rw [lk] at lk'
    have e1 := congrArg Obj.data (Option.some.inj lk')
    have e2 : PySem.W.fnOf x qual (defArgs st) (defBody st) (defScope st) .none kV doc pm an cdv ct = PySem.W.fnOf x' q' ar' bd' sc' dV' kV' dc' pm' an' cd' ct' := by injection e1
    exact (congrArg FuncData.code e2).symm
  refine ⟨len, fun A outer s H args us vs Q E gd hr e0 hb r hsp => ?_⟩
  have inK : K.In s.heap := e0.mod.kin.keeps fun b o e => (e0.bs b o e).1
  have par : ∀ y ∈ ps.zip us, (defScope st).names.lookup y.1 = some .local ∨ ((defScope st).names.lookup y.1 = some .cell ∧ ((cellsFrom (s.heap.objs.size + 1) (defScope st).names []).lookup y.1).isSome = true) := by
    rintro ⟨n, v⟩ hy
    rcases S.par n (List.of_mem_zip hy).1 with q | q
    · exact .inl q
    · exact .inr ⟨q, PySem.W.cellsFrom_some _ _ _ (.inl q)⟩
  refine codeAny_call_function hr.depth (inK _ _ lk) rfl S.co S.gen rfl (PySem.W.codeRec_of inK hcd) (hb _ _ _ _ ?_)
  refine wpAny_newFunctionEnv_cells S.kind par fun env he s1 x => ?_
  subst he
  refine ⟨(e0.mod.nolimit.keeps fun b o e => (e0.bs b o e).1).keeps x.toInCall.keep, codeAny_func ?_⟩
  obtain ⟨t, ht, hq⟩ := body cdv A outer s H vs Q E code gd (hr.deeper _) hsp
  have I0 := inv_start (CX := CX0) (E := E) S hr.hd e0 (len _ _ _ _ hsp) r x
  refine wpAny_mono (ht.nox.run [] s1 (start N vs) H _ I0 hq) (fun fl s' hs => ?_) fun e s' hs => hs
  cases fl with
  | ret u =>
    obtain ⟨v, σ', H', J, rv, q⟩ := hs
    exact ⟨v, H', J.os, J.bare, J.base, J.hok, rv, q⟩
  | next =>
    obtain ⟨σ', H', J, q⟩ := hs
    exact ⟨V.non, H', J.os, J.bare, J.base, J.hok, rfl, q⟩
  | brk => exact hs.elim fun _ z => z.elim fun _ z => z.2.elim
  | cont => exact hs.elim fun _ z => z.elim fun _ z => z.2.elim
/-- a def by its body, its code object told: the def itself -/
theorem fn_ofL {x : Str} {st : Stmt} {f : Addr} {fd : FuncData} {N ps : List Str} {k : Nat} {sp : PSp} (F : Fun K x x st f fd) (S : FnScope N ps (defScope st))
    (len : ∀ ss κ, sp ss κ → ss.length = ps.length)
    (body : ∀ (cdv : Value) (A : Around) (outer : List Env) (s : Shared) (H : Hp) (E : XK), CodeIs K f cdv → (A.deeper (envOfC x (defScope st) s.heap.objs.size f cdv)).guards = some [] → Room k (A.deeper (envOfC x (defScope st) s.heap.objs.size f cdv)) →
      ∃ q, PQSs τ (cxOf CX0 P w K mg base N x (defScope st) f cdv A outer s H E).nox (defBody st) q ∧ ∀ (ss : List Slot) (κ : PyData → List Slot → Prop), sp ss κ →
        q { nx := fun ρ => κ .none (ownsOf ss ρ), rt := fun d ρ => κ d (ownsOf ss ρ) } (ss ++ List.replicate (N.length - ss.length) .un)) : Fu.FnG P w K mg base CX0 (k + 1) f fd ps (liftP ⟨P, w, K, τ, base⟩ sp) := by
  refine okGC F S (fun vs H Q E h => ?_) (fun cdv A outer s H vs Q E code gd hr h => ?_)
  · obtain ⟨C, ss, R, κ, h, _⟩ := h
    have := R.len
    rw [List.length_map] at this
    rw [← this]; exact len _ _ h
  · obtain ⟨C, ss, R, κ, h, z⟩ := h
    obtain ⟨q, pq, hq⟩ := body cdv A outer s H E code gd hr
    have hl := R.len
    rw [List.length_map] at hl
    have R0 := rep_start (n := N.length - vs.length) R
    rw [← hl] at R0
    refine ⟨_, pq, ⟨C, H, refsAt 0 ss vs⟩, _, C, ?_, _, hq ss κ h, ?_, ?_, ?_, ?_⟩
    · unfold start
      rw [← hl]; exact R0
    · exact fun ρ' C' σ' H' k' s' R' => z _ _ _ _ _ k' s' (rep_end R R') .non
    · exact fun d ρ' v C' σ' H' k' s' R' d' => z _ _ _ _ _ k' s' (rep_end R R') d'
    · exact fun ρ' C' σ' H' k' => False.elim k'
    · exact fun ρ' C' σ' H' k' => False.elim k'
/-- .. as what callers know -/
theorem fn_ofC {x : Str} {st : Stmt} {f : Addr} {fd : FuncData} {N ps : List Str} {k : Nat} {sp : PSp} (F : Fun K x x st f fd) (hm : mg x = some (.ref f)) (hk : PySem.W.keepIn K (.ref f) = true) (hb : Binds K fd ps []) (S : FnScope N ps (defScope st))
    (len : ∀ ss κ, sp ss κ → ss.length = ps.length)
    (body : ∀ (cdv : Value) (A : Around) (outer : List Env) (s : Shared) (H : Hp) (E : XK), CodeIs K f cdv → (A.deeper (envOfC x (defScope st) s.heap.objs.size f cdv)).guards = some [] → Room k (A.deeper (envOfC x (defScope st) s.heap.objs.size f cdv)) →
      ∃ q, PQSs τ (cxOf CX0 P w K mg base N x (defScope st) f cdv A outer s H E).nox (defBody st) q ∧ ∀ (ss : List Slot) (κ : PyData → List Slot → Prop), sp ss κ →
        q { nx := fun ρ => κ .none (ownsOf ss ρ), rt := fun d ρ => κ d (ownsOf ss ρ) } (ss ++ List.replicate (N.length - ss.length) .un)) : PFn τ P w K mg base (k + 1) x ps sp :=
  ⟨f, fd, fn_ofL F S len body, hm, hk, hb, (by obtain ⟨oc, od, kV, doc, pm, an, cdv, ct, osl, rfl, lk, hcd⟩ := F.ex; exact ⟨oc, od, osl, lk⟩)⟩
end
end L2.Pu
namespace L2.Pu
open PySem PySem.Spec PyProof.Rows
/-- a def with lambdas of the name q: its table is known -/
structure LamFn (τ : Tb) (K : PySem.W.Frag) (mg : Str → Option Value) (base : Heap) (f : Addr) (q : Str) : Prop where
  ex : ∃ c Pt, (∀ cdv, CodeIs K f cdv → cdv = .ref c) ∧ LamX.TabB base mg c Pt ∧ (Pt, q) ∈ τ ∧ ∀ p ∈ τ, p.1 = Pt → p.2 = q
end L2.Pu
namespace L2.Pu
open PySem PySem.Spec PyProof.Rows
theorem ru64 {k : Nat} {A : Around} (r : Room k A) : A.units + 64 < cLine := by have := r.un; omega
theorem ru65 {k : Nat} {A : Around} (r : Room k A) : A.units + 65 < cLine := by have := r.un; omega
theorem snoc_ind {α : Type} {p : List α → Prop} (h0 : p []) (hs : ∀ l x, p l → p (l ++ [x])) (l : List α) : p l := by
  have : ∀ r : List α, p r.reverse := fun r => by
    induction r with
    | nil => exact h0
    | cons x r ih => rw [List.reverse_cons]; exact hs _ _ ih
  have := this l.reverse
  rwa [List.reverse_reverse] at this
end L2.Pu

set_option Elab.async false
set_option linter.all false
set_option maxRecDepth 100000
set_option maxHeartbeats 4000000
/-! ## Loops whose body changes nothing but their own names -/
namespace L2.Pu
open PySem PySem.Spec PyProof.Rows
theorem lcL_pure {i : Nat} {tt : QT} {te : QE} {vs : List Nat} {κ : List PyData → Ro → Prop} {ρ : Ro} (p : PyData → Bool) (f : PyData → PyData) (hw : ∀ d, wipeR (ρ.set i (.val d)) vs = ρ) : ∀ (ds acc : List PyData),
    (∀ d ∈ ds, ∀ k : Bool → Ro → Prop, k (p d) (ρ.set i (.val d)) → tt (ρ.set i (.val d)) k) → (∀ d ∈ ds, p d = true → ∀ k : PyData → Ro → Prop, k (f d) (ρ.set i (.val d)) → te (ρ.set i (.val d)) k) →
    κ (acc ++ (ds.filter p).map f) ρ → lcL (gN i) tt te vs κ ds acc ρ
  | [], acc, _, _, k => by rw [List.filter_nil, List.map_nil, List.append_nil] at k; exact k
  | d :: ds, acc, h1, h2, k => by
    refine ⟨fun acc' ρ' => acc' = (if p d = true then acc ++ [f d] else acc) ∧ ρ' = ρ, fun acc' ρ' h => ?_, ?_⟩
    · obtain ⟨rfl, rfl⟩ := h
      refine lcL_pure p f hw ds _ (fun d hd => h1 d (List.mem_cons_of_mem _ hd)) (fun d hd => h2 d (List.mem_cons_of_mem _ hd)) ?_
      rw [List.filter_cons] at k
      split
      · rename_i hp
        rw [if_pos hp, List.map_cons] at k
        rw [List.append_assoc]; exact k
      · rename_i hp
        rw [if_neg hp] at k; exact k
    · refine h1 d List.mem_cons_self _ ?_
      cases hp : p d with
      | true => exact h2 d List.mem_cons_self hp _ ⟨by simp, hw d⟩
      | false => exact ⟨by simp, hw d⟩
theorem lcL_map {i : Nat} {te : QE} {vs : List Nat} {κ : List PyData → Ro → Prop} {ρ : Ro} {ds : List PyData} (f : PyData → PyData) (hw : ∀ d, wipeR (ρ.set i (.val d)) vs = ρ)
    (h : ∀ d ∈ ds, ∀ k : PyData → Ro → Prop, k (f d) (ρ.set i (.val d)) → te (ρ.set i (.val d)) k) (k : κ (ds.map f) ρ) : lcL (gN i) qYes te vs κ ds [] ρ :=
  lcL_pure (fun _ => true) f hw ds [] (fun _ _ _ k => k) (fun d hd _ => h d hd) (by rw [List.filter_eq_self.mpr (fun _ _ => rfl), List.nil_append]; exact k)
end L2.Pu

set_option Elab.async false
set_option linter.all false
set_option maxRecDepth 100000
set_option maxHeartbeats 4000000
/-! ## Manifests and closures -/
namespace L2.Pu
open PySem PySem.Spec PyProof.Rows
abbrev Man := List (Str × List Str)
def rowD (r : Str × List Str) : PyData := .tuple [.str r.1, tupS r.2]
def manD (m : Man) : PyData := .tuple (m.map rowD)
abbrev nms (m : Man) : List Str := m.map (·.1)
def impl (m : Man) (x : Str) : List Str := ((m.find? fun r => decide (r.1 = x)).map (·.2)).getD []
/-- what is implied by what is asked for -/
inductive Rch (m : Man) (fs : List Str) : Str → Prop
  | base {x : Str} : x ∈ fs → Rch m fs x
  | step {x y : Str} : Rch m fs x → y ∈ impl m x → Rch m fs y
def ltS (a b : Str) : Prop := leS a b = true ∧ a ≠ b
structure Wf (m : Man) : Prop where
  asc : (nms m).Pairwise ltS
  inn : ∀ r ∈ m, ∀ y ∈ r.2, y ∈ nms m
  few : m.length ≤ 10
  short : ∀ r ∈ m, r.2.length ≤ 10
open Classical in
noncomputable def clo (m : Man) (fs : List Str) : List Str := (nms m).filter fun x => decide (Rch m fs x)
theorem asc_nodup {l : List Str} (h : l.Pairwise ltS) : l.Nodup := h.imp fun z => z.2
theorem asc_le {l : List Str} (h : l.Pairwise ltS) : l.Pairwise fun a b => leS a b = true := h.imp fun z => z.1
theorem perm_same {α : Type} [DecidableEq α] : ∀ {a b : List α}, a.Nodup → b.Nodup → (∀ x, x ∈ a ↔ x ∈ b) → a.Perm b
  | [], [], _, _, _ => .nil
  | [], y :: b, _, _, h => by have := (h y).mpr List.mem_cons_self; cases this
  | x :: a, b, na, nb, h => by
    have hx : x ∈ b := (h x).mp List.mem_cons_self
    obtain ⟨n1, n2⟩ := List.nodup_cons.mp na
    have ih := perm_same (a := a) (b := b.erase x) n2 (nb.erase x) fun y => by
      rw [nb.mem_erase_iff]
      constructor
      · intro hy
        exact ⟨fun e => n1 (e ▸ hy), (h y).mp (List.mem_cons_of_mem _ hy)⟩
      · rintro ⟨ne, hy⟩
        rcases List.mem_cons.mp ((h y).mpr hy) with e | e
        · exact absurd e ne
        · exact e
    exact (ih.cons x).trans (List.perm_cons_erase hx).symm
theorem sorted_same {a b : List Str} (ha : a.Pairwise ltS) (hb : b.Pairwise ltS) (h : ∀ x, x ∈ a ↔ x ∈ b) : a = b :=
  pair_uniq (perm_same (asc_nodup ha) (asc_nodup hb) h) (asc_le ha) (asc_le hb)
theorem impl_mem {m : Man} {x : Str} : ∀ y ∈ impl m x, ∃ r ∈ m, r.1 = x ∧ y ∈ r.2 := by
  intro y hy
  unfold impl at hy
  cases e : m.find? fun r => decide (r.1 = x) with
  | none => rw [e] at hy; cases hy
  | some r =>
    rw [e] at hy
    have h1 := List.find?_some e
    exact ⟨r, List.mem_of_find?_eq_some e, of_decide_eq_true h1, hy⟩
theorem Wf.impl_in {m : Man} (W : Wf m) {x y : Str} (h : y ∈ impl m x) : y ∈ nms m := by
  obtain ⟨r, hr, _, hy⟩ := impl_mem y h
  exact W.inn r hr y hy
theorem Wf.impl_short {m : Man} (W : Wf m) (x : Str) : (impl m x).length ≤ 10 := by
  unfold impl
  cases e : m.find? fun r => decide (r.1 = x) with
  | none => decide
  | some r => exact W.short r (List.mem_of_find?_eq_some e)
theorem Rch.inn {m : Man} (W : Wf m) {fs : List Str} (h : ∀ x ∈ fs, x ∈ nms m) {x : Str} (r : Rch m fs x) : x ∈ nms m := by
  cases r with
  | base hx => exact h _ hx
  | step _ hy => exact W.impl_in hy
open Classical in
theorem mem_clo {m : Man} (W : Wf m) {fs : List Str} (h : ∀ x ∈ fs, x ∈ nms m) {x : Str} : x ∈ clo m fs ↔ Rch m fs x := by
  unfold clo
  rw [List.mem_filter]
  exact ⟨fun z => of_decide_eq_true z.2, fun z => ⟨z.inn W h, decide_eq_true z⟩⟩
theorem nodup_le {α : Type} [DecidableEq α] : ∀ {a b : List α}, a.Nodup → (∀ x ∈ a, x ∈ b) → a.length ≤ b.length
  | [], _, _, _ => Nat.zero_le _
  | x :: a, b, na, h => by
    obtain ⟨n1, n2⟩ := List.nodup_cons.mp na
    have hx := h x List.mem_cons_self
    have ih := nodup_le (b := b.erase x) n2 fun y hy => (List.mem_erase_of_ne (a := y) (b := x) (fun e => n1 (by rw [← e]; exact hy))).mpr (h y (List.mem_cons_of_mem _ hy))
    have := List.length_erase_of_mem hx
    have : 0 < b.length := List.length_pos_of_mem hx
    rw [List.length_cons]; omega
theorem clo_asc {m : Man} (W : Wf m) (fs : List Str) : (clo m fs).Pairwise ltS := W.asc.filter _
/-- the state of the search: found, waiting -/
structure Wl (m : Man) (fs F ws : List Str) : Prop where
  nd : F.Nodup
  inF : ∀ x ∈ F, x ∈ nms m ∧ Rch m fs x
  inW : ∀ x ∈ ws, x ∈ nms m ∧ Rch m fs x
  start : ∀ x ∈ fs, x ∈ F ∨ x ∈ ws
  cl : ∀ x ∈ F, ∀ y ∈ impl m x, y ∈ F ∨ y ∈ ws
  few : ws.length ≤ fs.length + 10 * F.length
theorem Wl.init {m : Man} {fs : List Str} (h : ∀ x ∈ fs, x ∈ nms m) : Wl m fs [] fs := ⟨List.nodup_nil, (fun _ z => nomatch z), fun x hx => ⟨h x hx, .base hx⟩, fun _ hx => .inr hx, (fun _ z => nomatch z), by simp⟩
theorem Wl.skip {m : Man} {fs F ws : List Str} {x : Str} (w : Wl m fs F (ws ++ [x])) (h : x ∈ F) : Wl m fs F ws := by
  have out : ∀ y, y ∈ F ∨ y ∈ ws ++ [x] → y ∈ F ∨ y ∈ ws := fun y hy => by
    rcases hy with hy | hy
    · exact .inl hy
    · rcases List.mem_append.mp hy with hy | hy
      · exact .inr hy
      · cases List.mem_singleton.mp hy; exact .inl h
  exact ⟨w.nd, w.inF, fun y hy => w.inW y (List.mem_append_left _ hy), fun y hy => out y (w.start y hy), fun y hy z hz => out z (w.cl y hy z hz), by have := w.few; simp at this; omega⟩
theorem Wl.fresh {m : Man} (W : Wf m) {fs F ws : List Str} {x : Str} (w : Wl m fs F (ws ++ [x])) (h : x ∉ F) : Wl m fs (x :: F) (ws ++ impl m x) := by
  have hx := w.inW x (List.mem_append_right _ List.mem_cons_self)
  have out : ∀ y, y ∈ F ∨ y ∈ ws ++ [x] → y ∈ x :: F ∨ y ∈ ws ++ impl m x := fun y hy => by
    rcases hy with hy | hy
    · exact .inl (List.mem_cons_of_mem _ hy)
    · rcases List.mem_append.mp hy with hy | hy
      · exact .inr (List.mem_append_left _ hy)
      · cases List.mem_singleton.mp hy; exact .inl List.mem_cons_self
  refine ⟨List.nodup_cons.mpr ⟨h, w.nd⟩, fun y hy => ?_, fun y hy => ?_, fun y hy => out y (w.start y hy), fun y hy z hz => ?_, ?_⟩
  · rcases List.mem_cons.mp hy with rfl | hy
    · exact hx
    · exact w.inF y hy
  · rcases List.mem_append.mp hy with hy | hy
    · exact w.inW y (List.mem_append_left _ hy)
    · exact ⟨W.impl_in hy, .step hx.2 hy⟩
  · rcases List.mem_cons.mp hy with rfl | hy
    · exact .inr (List.mem_append_right _ hz)
    · exact out z (w.cl y hy z hz)
  · have := w.few
    have := W.impl_short x
    simp at *; omega
theorem Wl.size {m : Man} (W : Wf m) {fs F ws : List Str} (w : Wl m fs F ws) : F.length ≤ 10 := by
  have : F.length ≤ (nms m).length := nodup_le w.nd fun x hx => (w.inF x hx).1
  have h := W.few
  rw [List.length_map] at this
  omega
theorem Wl.done {m : Man} (W : Wf m) {fs F : List Str} (h : ∀ x ∈ fs, x ∈ nms m) (w : Wl m fs F []) : sortS F = clo m fs := by
  have all : ∀ x, Rch m fs x → x ∈ F := fun x r => by
    induction r with
    | base hx => exact (w.start _ hx).elim id fun z => nomatch z
    | step _ hy ih => exact (w.cl _ ih _ hy).elim id fun z => nomatch z
  refine pair_uniq ((sortS_perm F).trans (perm_same w.nd (asc_nodup (clo_asc W fs)) fun x => ?_)) (sortS_pair F) (asc_le (clo_asc W fs))
  rw [mem_clo W h]
  exact ⟨fun hx => (w.inF x hx).2, all x⟩
/-! ### the manifest as a dict -/
end L2.Pu

set_option Elab.async false
set_option linter.all false
set_option maxRecDepth 100000
set_option maxHeartbeats 4000000
/-! ## Requests -/
namespace L2.Pu
open PySem PySem.Spec PyProof.Rows
def okS (l : List Str) : Prop := ∀ x ∈ l, PyData.canLay0 (.str x) = true
def subsD (names : List Str) : List (List Str) := names.foldl (fun found x => found ++ found.map fun s => s ++ [x]) [[]]
theorem subsD_snoc (done : List Str) (x : Str) : subsD (done ++ [x]) = subsD done ++ (subsD done).map fun s => s ++ [x] := by unfold subsD; rw [List.foldl_append]; rfl
theorem subsD_sub (names : List Str) : ∀ s : List Str, s ∈ subsD names ↔ s.Sublist names := by
  refine snoc_ind (p := fun names => ∀ s : List Str, s ∈ subsD names ↔ s.Sublist names) (fun s => ?_) (fun l x ih s => ?_) names
  · rw [List.sublist_nil]; exact List.mem_singleton
  · rw [subsD_snoc, List.mem_append, List.sublist_append_iff]
    constructor
    · rintro (h | h)
      · exact ⟨s, [], by rw [List.append_nil], (ih s).mp h, List.nil_sublist _⟩
      · obtain ⟨r, hr, rfl⟩ := List.mem_map.mp h
        exact ⟨r, [x], rfl, (ih r).mp hr, List.Sublist.refl _⟩
    · rintro ⟨r, t, rfl, h1, h2⟩
      cases t with
      | nil => rw [List.append_nil]; exact .inl ((ih r).mpr h1)
      | cons y t =>
        have ht : t = [] ∧ y = x := by
          cases h2 with
          | cons _ h => cases h
          | cons_cons _ h => exact ⟨List.sublist_nil.mp h, rfl⟩
        obtain ⟨rfl, rfl⟩ := ht
        exact .inr (List.mem_map.mpr ⟨r, (ih r).mpr h1, rfl⟩)
end L2.Pu

set_option Elab.async false
set_option linter.all false
set_option maxRecDepth 100000
set_option maxHeartbeats 4000000
/-! ## Requests in their order -/
namespace L2.Pu
open PySem PySem.Spec PyProof.Rows
end L2.Pu

set_option Elab.async false
set_option linter.all false
set_option maxRecDepth 100000
set_option maxHeartbeats 4000000
/-! ## How long what is shown is -/
namespace L2.Pu
open PySem PySem.Spec PyProof.Rows
structure ShowsAll (ds : List PyData) (n k : Nat) : Prop where
  can : PyData.showableAll ds = true
  few : piled (PyData.shownAll ds) ≤ n
  flat : PyData.depthAll ds ≤ k
  nodict : PyData.hasDictAll ds = false
theorem ShowsAll.nil (k : Nat) : ShowsAll [] 0 k := ⟨by simp only [PyData.showableAll], Nat.le_refl 0, Nat.zero_le k, by simp only [PyData.hasDictAll]⟩
theorem ShowsAll.cons {d : PyData} {ds : List PyData} {n m k : Nat} (h : Shows d n k) (t : ShowsAll ds m k) : ShowsAll (d :: ds) (n + 2 + m) k :=
  ⟨by simp only [PyData.showableAll, h.can, t.can, Bool.and_self], by
      simp only [PyData.shownAll, piled_cons]
      have := h.few
      have := t.few
      omega, by
      simp only [PyData.depthAll]
      exact Nat.max_le.mpr ⟨h.flat, t.flat⟩, by simp only [PyData.hasDictAll, h.nodict, t.nodict, Bool.or_self]⟩
theorem join_len (ts : List Str) : (Str.join ", " ts).length ≤ piled ts := by
  by_cases h : ts = []
  · subst h
    exact Nat.zero_le _
  · have := join_length_add ts h
    omega
theorem textFrom_le : ∀ (ts : List Str) (k : Nat) (acc : Str), (textFrom k acc ts).length ≤ acc.length + piled ts
  | [], k, acc => Nat.le_add_right _ _
  | t :: r, k, acc => by
    have ih := textFrom_le r (k + 1) (acc ++ (if k > 0 then ", " else "" : String) ++ t)
    have e : (acc ++ (if k > 0 then ", " else "" : String) ++ t).length ≤ acc.length + 2 + t.length := by
      rw [strLen_append, strLen_append]
      by_cases hk : k > 0
      · rw [if_pos hk]
        exact Nat.le_refl _
      · rw [if_neg hk]
        show acc.length + 0 + t.length ≤ _
        omega
    rw [piled_cons]
    show (textFrom (k + 1) (acc ++ (if k > 0 then ", " else "" : String) ++ t) r).length ≤ _
    omega
theorem Shows.lst {ds : List PyData} {n k : Nat} (h : ShowsAll ds n k) : Shows (.list ds) (n + 2) (k + 1) :=
  ⟨by simp only [PyData.showable, h.can], by
      simp only [PyData.shown]
      have e : (listText (PyData.shownAll ds)).length = (textFrom 0 "[" (PyData.shownAll ds)).length + 1 := by
        unfold listText
        rw [strLen_append]
        rfl
      have l := textFrom_le (PyData.shownAll ds) 0 "["
      have o : (("[" : String) : Str).length = 1 := rfl
      have := h.few
      rw [o] at l
      omega, by
      simp only [PyData.depth]
      exact Nat.succ_le_succ h.flat, by simp only [PyData.hasDict, h.nodict]⟩
theorem Shows.tup {ds : List PyData} {n k : Nat} (h : ShowsAll ds n k) : Shows (.tuple ds) (n + 3) (k + 1) :=
  ⟨by simp only [PyData.showable, h.can], by
      simp only [PyData.shown]
      have e : (tupleText (PyData.shownAll ds)).length ≤ 1 + (Str.join ", " (PyData.shownAll ds)).length + 2 := by
        unfold tupleText
        rw [strLen_append, strLen_append]
        by_cases hk : ((PyData.shownAll ds).length == 1) = true
        · rw [if_pos hk]
          exact Nat.le_refl _
        · rw [if_neg hk]
          show 1 + _ + 1 ≤ _
          omega
      have l := join_len (PyData.shownAll ds)
      have := h.few
      omega, by
      simp only [PyData.depth]
      exact Nat.succ_le_succ h.flat, by simp only [PyData.hasDict, h.nodict]⟩
theorem Shows.more {d : PyData} {n k n' k' : Nat} (h : Shows d n k) (a : n ≤ n') (b : k ≤ k') : Shows d n' k' := ⟨h.can, Nat.le_trans h.few a, Nat.le_trans h.flat b, h.nodict⟩
theorem ShowsAll.more {d : List PyData} {n k n' k' : Nat} (h : ShowsAll d n k) (a : n ≤ n') (b : k ≤ k') : ShowsAll d n' k' := ⟨h.can, Nat.le_trans h.few a, Nat.le_trans h.flat b, h.nodict⟩
theorem shows_str {x : Str} {n k : Nat} (h : (reprText x).length ≤ n) : Shows (.str x) n k := ⟨by simp only [PyData.showable], by simp only [PyData.shown]; exact h, by simp only [PyData.depth]; exact Nat.zero_le _, by simp only [PyData.hasDict]⟩
theorem shows_all {n k : Nat} : ∀ {ds : List PyData}, (∀ d ∈ ds, Shows d n k) → ShowsAll ds (ds.length * (n + 2)) k
  | [], _ => ⟨by simp only [PyData.showableAll], (by simp [piled] <;> rfl), Nat.zero_le k, by simp only [PyData.hasDictAll]⟩
  | d :: ds, h => by
    have := ShowsAll.cons (h d List.mem_cons_self) (shows_all (ds := ds) fun x hx => h x (List.mem_cons_of_mem _ hx))
    refine this.more ?_ (Nat.le_refl _)
    rw [List.length_cons, Nat.succ_mul]; omega
/-- a tuple of at most m texts of at most n signs -/
theorem shows_tupS {r : List Str} {n m : Nat} (h : ∀ x ∈ r, (reprText x).length ≤ n) (l : r.length ≤ m) : Shows (tupS r) (m * (n + 2) + 3) 1 := by
  refine (Shows.tup (k := 0) (shows_all (n := n) (k := 0) fun d hd => ?_)).more ?_ (Nat.le_refl _)
  · obtain ⟨x, hx, rfl⟩ := List.mem_map.mp hd
    exact shows_str (h x hx)
  · rw [List.length_map]
    exact Nat.add_le_add_right (Nat.mul_le_mul_right _ l) 3
end L2.Pu

set_option Elab.async false
set_option linter.all false
set_option maxRecDepth 100000
set_option maxHeartbeats 4000000
/-! ## The law's call, with tables of code objects -/
namespace L2.Pu
open PySem PySem.Spec PyProof.Rows
end L2.Pu

set_option Elab.async false
set_option linter.all false
set_option maxRecDepth 100000
set_option maxHeartbeats 4000000
/-! ## The first state -/
namespace L2.Pu
open PySem PySem.Spec PyProof.Rows
/-- what is locked for good -/
def lockd (H : Hp) : Hp := fun b => match H b with
  | some (.frz o u) => some (.frz o u)
  | _ => none
theorem lockd_sub (H : Hp) : Same (lockd H) H := fun b o e => by
  unfold lockd at e
  split at e
  · rename_i ob u h; rw [h]; exact e
  · cases e
theorem lockd_of {H : Hp} {b : Addr} {o : Obj} {u : HO} (h : H b = some (.frz o u)) : lockd H b = some (.frz o u) := by
  unfold lockd; rw [h]
theorem law_start {P : Program} {w : World} {K : PySem.W.Frag} {τ : Tb} {h : Heap} {H : Hp} {a : Addr} {ns : List Int} (tab : ∀ t ∈ τ, H t.1 = some (.tbl #[]))
    (only : ∀ b, H b = none ∨ (∃ q, (b, q) ∈ τ) ∨ ∃ o xs, H b = some (.frz o (.lst xs))) (hS : SqL K H a (ns.map V.int)) (hl : ∀ xs, H a ≠ some (.lst xs)) :
    Stand ⟨P, w, K, τ, hidT h H⟩ (lockd H) H [.scr ns] [.ref a] := by
  have known : ∀ b ps, H b = some (.tbl ps) → ∃ q, (b, q) ∈ τ := fun b ps e => by
    rcases only b with z | z | ⟨o, xs, z⟩
    · rw [e] at z; cases z
    · exact z
    · rw [e] at z; cases z
  refine ⟨same_refl _, lockd_sub H, fun b o k _ _ => k, known, known, fun b o e ps z => ?_, fun t ht => LamX.TabS.nil (tab t ht), fun b o k k0 => ?_, (fun q hq => nomatch hq), ?_, rfl, fun i s hs => ?_, fun i j p r r' o o' ij hi hj _ _ => ?_⟩
  · subst z
    unfold lockd at e
    split at e
    · cases e
    · cases e
  · have k0' : lockd H b = none := k0
    rw [k] at k0'; cases k0'
  · trivial
  · cases i with
    | succ i => cases i <;> cases hs
    | zero =>
      cases hs
      refine ⟨a, rfl, ?_⟩
      rcases hS with (e | ⟨o, e⟩) | e
      · exact absurd e (hl _)
      · exact .inl (.inr ⟨o, lockd_of e⟩)
      · exact .inr e
  · cases i with
    | zero => cases hi
    | succ i => cases i <;> cases hi
end L2.Pu

set_option Elab.async false
set_option linter.all false
set_option maxRecDepth 100000
set_option maxHeartbeats 4000000
/-! ## The end -/
namespace L2.Pu
open PySem PySem.Spec PyProof.Rows
end L2.Pu

set_option Elab.async false
set_option linter.all false
set_option maxRecDepth 100000
set_option maxHeartbeats 4000000
/-! ## Names, requests, closures: what is true of them -/
namespace L2.Pu
open PySem PySem.Spec PyProof.Rows
def lettersS : Str := "abcdefghijklmnopqrstuvwxyz"
def nameS (x : Str) : Bool := decide (1 ≤ x.length) && decide (x.length ≤ 8) && x.cps.toList.all fun c => decide (c ∈ lettersS.cps.toList)
def nameB : PyData → Bool
  | .str x => nameS x
  | _ => false
/-- what isinstance and len can look at -/
structure Seen1 (d : PyData) : Prop where
  nd : ∀ x y r, d ≠ .dict ((.tuple x, y) :: r)
  few : ∀ x, d = .str x → x.length ≤ 16000000
theorem seen_str {x : Str} (h : x.length ≤ 16000000) : Seen1 (.str x) := ⟨(fun _ _ _ e => nomatch e), fun y e => by cases e; exact h⟩
def signB : PyData → Bool
  | .str a => match a.cps.toList with
    | [c] => decide (c ∈ lettersS.cps.toList)
    | _ => false
  | _ => false
open Classical in
/-- a request -/
noncomputable def reqB (m : Man) (d : PyData) : Bool := decide (∃ r : List Str, d = tupS r ∧ (∀ x ∈ r, nameS x = true) ∧ r.Pairwise ltS ∧ ∀ x ∈ r, x ∈ nms m)
structure SeenT (d : PyData) : Prop where
  one : Seen1 d
  all : ∀ ds, d = .tuple ds → (∀ e ∈ ds, Seen1 e) ∧ ds.length ≤ 1000000
theorem nameS_few {x : Str} (h : nameS x = true) : x.length ≤ 8 := by
  unfold nameS at h
  rw [Bool.and_eq_true, Bool.and_eq_true] at h
  exact of_decide_eq_true h.1.2
theorem seenT_of {r : List Str} (h : ∀ x ∈ r, x.length ≤ 16000000) (l : r.length ≤ 1000000) : SeenT (tupS r) := by
  refine ⟨⟨(fun _ _ _ e => nomatch e), (fun _ e => nomatch e)⟩, fun ds e => ?_⟩
  cases e
  refine ⟨fun e he => ?_, by rw [List.length_map]; exact l⟩
  obtain ⟨x, hx, rfl⟩ := List.mem_map.mp he
  exact seen_str (h x hx)
theorem any_eqv_strs (x : Str) : ∀ r : List Str, (r.map PyData.str).any (fun z => PyData.eqv z (.str x)) = decide (x ∈ r)
  | [] => by simp
  | y :: r => by
    rw [List.map_cons, List.any_cons, any_eqv_strs x r]
    rw [Bool.eq_iff_iff, Bool.or_eq_true, decide_eq_true_iff, decide_eq_true_iff, List.mem_cons]
    have : PyData.eqv (.str y) (.str x) = true ↔ x = y := by
      simp only [PyData.eqv]
      constructor
      · intro h; exact (by simpa using h : y = x).symm
      · intro h; subst h; simp
    rw [this]
theorem flat_strs (r : List Str) : (r.map PyData.str).all flatD = true := by
  rw [List.all_eq_true]
  intro d hd
  obtain ⟨x, _, rfl⟩ := List.mem_map.mp hd
  rfl
/-! ### the order of requests -/
/-! ### closures -/
theorem sub_of_asc {a b : List Str} (ha : a.Pairwise ltS) (hb : b.Pairwise ltS) (h : ∀ x ∈ a, x ∈ b) : a.Sublist b := by
  have : a = b.filter fun x => decide (x ∈ a) := sorted_same ha (hb.filter _) fun x => by
    rw [List.mem_filter, decide_eq_true_iff]
    exact ⟨fun z => ⟨h x z, z⟩, fun z => z.2⟩
  rw [this]; exact List.filter_sublist
section
variable {m : Man}
theorem Rch.mono {fs gs : List Str} (h : ∀ x ∈ fs, Rch m gs x) {x : Str} (r : Rch m fs x) : Rch m gs x := by
  induction r with
  | base z => exact h _ z
  | step _ z ih => exact .step ih z
end
theorem allL_nodup : ∀ (ts : List Str), (Fu.allL ts).Nodup := fun ts => by
  refine snoc_ind (p := fun ts => (Fu.allL ts).Nodup) ?_ (fun l x ih => ?_) ts
  · exact List.nodup_nil
  · rw [Fu.allL_snoc]
    unfold Fu.addL
    split
    · exact ih
    · rename_i h
      first
        | exact List.nodup_cons.mpr ⟨h, ih⟩
        | (refine List.nodup_append.mpr ⟨ih, List.nodup_cons.mpr ⟨List.not_mem_nil, List.nodup_nil⟩, ?_⟩
           intro a ha b hb e
           cases List.mem_singleton.mp hb
           exact h (e ▸ ha))
section
variable {m : Man}
end
end L2.Pu

set_option Elab.async false
set_option linter.all false
set_option maxRecDepth 100000
set_option maxHeartbeats 4000000
/-! ## Formulas, libraries, views -/
namespace L2.Pu
open PySem PySem.Spec PyProof.Rows
inductive Fo where
  | ft (x : Str)
  | nd (h : Str) (ps : List Fo)
mutual
def fD : Fo → PyData
  | .ft x => .tuple [.str "feature", .str x]
  | .nd h ps => .tuple (.str h :: fDs ps)
def fDs : List Fo → List PyData
  | [] => []
  | f :: fs => fD f :: fDs fs
end
theorem fDs_map : ∀ ps : List Fo, fDs ps = ps.map fD
  | [] => by simp only [fDs, List.map_nil]
  | f :: fs => by simp only [fDs, List.map_cons, fDs_map fs]
mutual
def tall : Fo → Nat
  | .ft _ => 1
  | .nd _ ps => tallAll ps + 1
def tallAll : List Fo → Nat
  | [] => 0
  | f :: fs => max (tall f) (tallAll fs)
end
mutual
def hold (S : List Str) : Fo → Bool
  | .ft x => decide (x ∈ S)
  | .nd h ps => if h = "not" then !((holdL S ps).headD false) else if h = "all" then (holdL S ps).all id else (holdL S ps).any id
def holdL (S : List Str) : List Fo → List Bool
  | [] => []
  | f :: fs => hold S f :: holdL S fs
end
theorem holdL_map (S : List Str) : ∀ ps : List Fo, holdL S ps = ps.map (hold S)
  | [] => by simp only [holdL, List.map_nil]
  | f :: fs => by simp only [holdL, List.map_cons, holdL_map S fs]
def heads : List Str := ["all", "any", "not"]
mutual
/-- a formula over the names N, with at most ten parts -/
def okF (N : List Str) : Fo → Prop
  | .ft x => x ∈ N
  | .nd h ps => h ∈ heads ∧ (h = "not" → ps.length = 1) ∧ ps.length ≤ 70 ∧ okFs N ps
def okFs (N : List Str) : List Fo → Prop
  | [] => True
  | f :: fs => okF N f ∧ okFs N fs
end
theorem tallAll_le {n : Nat} : ∀ {ps : List Fo}, tallAll ps ≤ n ↔ ∀ f ∈ ps, tall f ≤ n
  | [] => by simp [tallAll]
  | f :: fs => by simp only [tallAll, Nat.max_le, tallAll_le (ps := fs), List.mem_cons, forall_eq_or_imp]
def parts : Fo → List Fo
  | .ft _ => []
  | .nd _ ps => ps
theorem heads_cases {h : Str} (e : h ∈ heads) : h = "all" ∨ h = "any" ∨ h = "not" := by
  unfold heads at e
  simpa only [List.mem_cons, List.not_mem_nil, or_false] using e
theorem heads_nf {h : Str} (e : h ∈ heads) : h ≠ "feature" := by
  rcases heads_cases e with rfl | rfl | rfl <;> decide +kernel
/-! ### libraries -/
abbrev Rw := List (Fo × Int)
abbrev Its := List (Str × Rw)
def rwD (r : Fo × Int) : PyData := .tuple [fD r.1, .int r.2]
def itD (i : Str × Rw) : PyData := .tuple [.str i.1, .tuple (i.2.map rwD)]
def libD (m : Man) (is : Its) : PyData := .tuple [manD m, .tuple (is.map itD)]
def optD : Option Int → PyData
  | some v => .int v
  | none => .none
/-- the first row whose formula holds -/
def verOf (S : List Str) : Rw → Option Int
  | [] => none
  | (f, v) :: rs => if hold S f = true then some v else verOf S rs
def prD (p : Str × Int) : PyData := .tuple [.str p.1, .int p.2]
def viewL (is : Its) (S : List Str) : List (Str × Int) := is.filterMap fun i => (verOf S i.2).map fun v => (i.1, v)
structure OkI (N : List Str) (is : Its) : Prop where
  few : is.length ≤ 12
  rows : ∀ i ∈ is, i.2.length ≤ 10 ∧ ∀ r ∈ i.2, okF N r.1 ∧ tall r.1 ≤ 5 ∧ 0 ≤ r.2 ∧ r.2 ≤ 99
  nam : ∀ i ∈ is, i.1.length ≤ 8 ∧ PyData.canLay0 (.str i.1) = true
end L2.Pu

set_option Elab.async false
set_option linter.all false
set_option maxRecDepth 100000
set_option maxHeartbeats 4000000
/-! ## {elt for target in iter if ..}, whatever is told of the set -/
namespace L2.Fu
open PySem PySem.Spec PyProof.Rows
section
variable {X : Cx} {α : Type}
end
def mkI (w : World) (a : Addr) (L : List Int) : HO := SetO w a (fun j => decide (j ∈ L)) L.length
section
variable {X : Cx}
end
end L2.Fu

set_option Elab.async false
set_option linter.all false
set_option maxRecDepth 100000
set_option maxHeartbeats 4000000
/-! ## sorted({elt for target in iter if ..}), elt an int -/
namespace L2.Pu
open PySem PySem.Spec PyProof.Rows
section
variable {X : Cx} {τ : Tb} {pos p spos : Pos}
end
section
variable {X : Cx} {τ : Tb} {pos p : Pos} {e : Expr} {qa : QE}
end
end L2.Pu

set_option Elab.async false
set_option linter.all false
set_option maxRecDepth 100000
set_option maxHeartbeats 4000000
/-! ## Dicts whose keys are tuples of texts: d[k] -/
namespace L2.Pu
open PySem PySem.Spec PyProof.Rows
abbrev keysOf (r : List Str) : List Key := r.map Sum.inr
theorem keysOf_inj {a b : List Str} (h : keysOf a = keysOf b) : a = b := by
  have : (keysOf a).map (fun k : Key => match k with | .inr x => x | .inl _ => "") = (keysOf b).map (fun k : Key => match k with | .inr x => x | .inl _ => "") := by rw [h]
  rw [List.map_map, List.map_map] at this
  have i : ∀ l : List Str, l.map ((fun k : Key => match k with | .inr x => x | .inl _ => ("" : Str)) ∘ Sum.inr) = l := fun l => by
    induction l with
    | nil => rfl
    | cons x l ih => rw [List.map_cons, ih]; rfl
  rwa [i, i] at this
theorem nodup_map_inj {α β : Type} {f : α → β} (hf : ∀ a b, f a = f b → a = b) : ∀ {l : List α}, l.Nodup → (l.map f).Nodup
  | [], _ => List.nodup_nil
  | a :: l, h => by
    rw [List.nodup_cons] at h
    rw [List.map_cons, List.nodup_cons]
    refine ⟨fun z => ?_, nodup_map_inj hf h.2⟩
    obtain ⟨b, hb, e⟩ := List.mem_map.mp z
    exact h.1 (hf _ _ e ▸ hb)
section
variable {X : Cx} {pins : List (Addr × Obj)} {σ : St} {H : Hp} {s : Shared}
theorem key_frz (I : Inv X pins σ H s) {q : Addr} {ob : Obj} {r : List Str} (h : H q = some (.frz ob (.tup (r.map V.str)))) : (tupleKind (mixKind X.prog X.w)).is s.heap (keysOf r) q := by
  obtain ⟨_, its, rv, o, h1, h2, n, h3⟩ := (show ObjOk X.prog X.w H s.heap q (.tup (r.map V.str)) from (I.hok q _ h).2)
  refine ⟨o, its.toArray, n, h1, h2, h3, ?_⟩
  have : Vals ((keysOf r).map kV) its := by rw [List.map_map]; exact rv
  simpa using items_are this
theorem DT.of (I : Inv X pins σ H s) {a : Addr} {o : Obj} {u : HO} {zs : List (List Str × Addr × V)} (h : H a = some (.frz o u)) (t : DT X.w a o zs) (ks : ∀ z ∈ zs, KeyAt H z) :
    ∃ xs : List (List Str × Addr × Value), Paired (fun (z : List Str × Addr × V) (x : List Str × Addr × Value) => x.1 = z.1 ∧ x.2.1 = z.2.1 ∧ RelV z.2.2 x.2.2) zs xs ∧ s.heap.DictOfH (tupleKind (mixKind X.prog X.w)) a (xs.map fun x => (keysOf x.1, x.2)) := by
  obtain ⟨es, ep, xs, h1, pr, h3⟩ := t.ents
  have names : xs.map (·.1) = zs.map (·.1) := by
    clear h3 ks t
    induction pr with
    | nil => rfl
    | cons r _ ih => rw [List.map_cons, List.map_cons, ih, r.1]
  refine ⟨xs, pr, o, es, ep, (I.hok a _ h).1, t.ex, h1, by rw [h3, List.map_map]; rfl, fun y hy => ?_, ?_⟩
  · obtain ⟨x, hx, rfl⟩ := List.mem_map.mp hy
    obtain ⟨i, hi⟩ := List.getElem?_of_mem hx
    have lz : i < zs.length := by
      have := Paired.length pr
      have := (List.getElem?_eq_some_iff.mp hi).1
      omega
    obtain ⟨b, hb, e1, e2, _⟩ := paired_get pr (List.getElem?_eq_getElem lz)
    rw [hi] at hb; cases hb
    obtain ⟨ob, k1, _⟩ := ks zs[i] (List.getElem_mem lz)
    rw [← e1, ← e2] at k1
    exact key_frz I k1
  · rw [List.map_map]
    show (xs.map fun x => keysOf x.1).Nodup
    rw [show (fun x : List Str × Addr × Value => keysOf x.1) = keysOf ∘ (·.1) from rfl, ← List.map_map, names]
    exact nodup_map_inj (fun _ _ => keysOf_inj) t.nd
end
section
variable {X : Cx} {τ : Tb} {pos : Pos} {a b : Expr} {qa qb : QE}
end
end L2.Pu

set_option Elab.async false
set_option linter.all false
set_option maxRecDepth 100000
set_option maxHeartbeats 4000000
/-! ## {k: v for target in iter if ..}, whatever is told of the dict -/
namespace L2.Fu
open PySem PySem.Spec PyProof.Rows
section
variable {X : Cx} {α : Type}
end
end L2.Fu

set_option Elab.async false
set_option linter.all false
set_option maxRecDepth 100000
set_option maxHeartbeats 4000000
/-! ## {k: v for ..}, the keys tuples of texts -/
namespace L2.Pu
open PySem PySem.Spec PyProof.Rows
section
variable {X : Cx} {pins : List (Addr × Obj)} {σ : St} {H : Hp} {s : Shared}
end
section
variable {X : Cx}
end
end L2.Pu

set_option Elab.async false
set_option linter.all false
set_option maxRecDepth 100000
set_option maxHeartbeats 4000000
/-! ## {k: v for ..}, dict([(k, v), ..]), the keys tuples of texts: data at once -/
namespace L2.Pu
open PySem PySem.Spec PyProof.Rows
section
variable {X : Cx} {τ : Tb} {pos : Pos}
end
end L2.Pu

set_option Elab.async false
set_option linter.all false
set_option maxRecDepth 100000
set_option maxHeartbeats 4000000
/-! ## dict([(k, v), ..]) with tuples of texts as keys; an own dict becomes data; d.get(k) -/
namespace L2.Pu
open PySem PySem.Spec PyProof.Rows
section
variable {X : Cx} {pins : List (Addr × Obj)} {σ : St} {H : Hp} {s : Shared}
end
section
variable {X : Cx} {τ : Tb} {pos p : Pos} {e : Expr} {es : List Expr}
/-! ### an own dict becomes data -/
/-! ### d.get(k) -/
end
end L2.Pu

set_option Elab.async false
set_option linter.all false
set_option maxRecDepth 100000
set_option maxHeartbeats 4000000
/-! ## t[::-1] -/
namespace HT
open PySem PySem.Spec PyProof.Rows
section
variable {prog : Program} {w : World} {A : Around} {E : Value → Shared → Prop} {s : Shared}
end
end HT
namespace L2.Pu
open PySem PySem.Spec PyProof.Rows
section
variable {X : Cx} {τ : Tb} {e stp : Expr} {pos p2 : Pos} {te tk : TE} {qa qk : QE}
end
end L2.Pu

set_option Elab.async false
set_option linter.all false
set_option maxRecDepth 100000
set_option maxHeartbeats 4000000
/-! ## [e for x in xs if .. for y in ys if ..] -/
namespace L2.Pu
open PySem PySem.Spec PyProof.Rows
section
variable {X : Cx} {τ : Tb} {pos : Pos} {elt tg iter tg1 iter1 : Expr} {ifs ifs1 : List Expr} {scope : Scope} {own : List (Str × Nat)} {vs1 : List Nat} {qi qi1 : QI} {g g1 : QG} {tt tt1 : QT} {te : QE}
variable {i : Nat} {y : Str} {py spos : Pos}
end
end L2.Pu

set_option Elab.async false
set_option linter.all false
set_option maxRecDepth 100000
set_option maxHeartbeats 4000000
namespace L2.Pu
open PySem PySem.Spec PyProof.Rows
def strsL (l : List Str) : PyData := .list (l.map PyData.str)
/-! ### closed requests -/
/-! ### tables -/
/-! ### the steps that break -/
end L2.Pu

set_option Elab.async false
set_option linter.all false
set_option maxRecDepth 100000
set_option maxHeartbeats 4000000
namespace L2.Pu
open PySem PySem.Spec PyProof.Rows
def headD : PyData → PyData
  | .tuple (x :: _) => x
  | d => d
theorem snoc_cases {α : Type} (l : List α) : l = [] ∨ ∃ r x, l = r ++ [x] := snoc_ind (p := fun l => l = [] ∨ ∃ r x, l = r ++ [x]) (.inl rfl) (fun l x _ => .inr ⟨l, x, rfl⟩) l
section
variable {P : Program} {w : World} {K : PySem.W.Frag} {mg : Str → Option Value} {base : Heap} {τ : Tb}
theorem Wf.sub {m : Man} {s : List Str} (h : s ∈ subsD (nms m)) : ∀ x ∈ s, x ∈ nms m := fun x hx => ((subsD_sub _ s).mp h).subset hx
end
end L2.Pu
/-! ## The law's small defs -/
namespace L2.Pu
open PySem PySem.Spec PyProof.Rows
section
variable {P : Program} {w : World} {K : PySem.W.Frag} {mg : Str → Option Value} {base : Heap}
end
end L2.Pu
namespace L2.Pu
open PySem PySem.Spec PyProof.Rows
section
variable {P : Program} {w : World} {K : PySem.W.Frag} {mg : Str → Option Value} {base : Heap} {τ : Tb}
def spOf : PSp := fun ss κ => ∃ n ds, ss = [.own true (.hand (n + 1)), .val (.list ds)] ∧ ds ≠ [] ∧ ds.length ≤ 1000000 ∧ ∀ d ∈ ds, κ d [.own true (.hand n), .un]
theorem atI_mem {ds : List PyData} {x : Int} (h0 : 0 ≤ x) (h1 : x < ds.length) : ∃ d ∈ ds, atI ds x = some d := by
  obtain ⟨v, hv, hm⟩ := Fu.atI_in h0 h1
  exact ⟨v, hm, hv⟩
def spSome : PSp := fun ss κ => ∃ (n : Nat) (xs : List Str) (often : Int), ss = [.own true (.hand n), .val (strsL xs), .val (.int often)] ∧ xs.length ≤ n ∧ 0 < often ∧ often < 1000000000 ∧ ∀ (ys : List Str) (n' : Nat), ys.Sublist xs → n - xs.length ≤ n' → κ (tupS ys) [.own true (.hand n'), .un, .un]
end
end L2.Pu
namespace L2.Pu
open PySem PySem.Spec PyProof.Rows
section
variable {P : Program} {w : World} {K : PySem.W.Frag} {mg : Str → Option Value} {base : Heap} {τ : Tb}
theorem map_erase {α β : Type} (f : α → β) : ∀ (l : List α) (n : Nat), (l.map f).eraseIdx n = (l.eraseIdx n).map f
  | [], _ => rfl
  | _ :: _, 0 => rfl
  | x :: l, n + 1 => by simp only [List.map_cons, List.eraseIdx_cons_succ, map_erase f l n]
def ten : List Str := ["a", "alloc", "b", "c", "d", "longname", "not", "std", "x", "zz"]
def spNames : PSp := fun ss κ => ∃ (n : Nat) (c : Nat), ss = [.own true (.hand n), .val (.int c)] ∧ 10 ≤ n ∧ c ≤ 10 ∧ ∀ (ys : List Str) (n' : Nat), ys.Sublist ten → ys.length = c → n - 10 ≤ n' → κ (strsL ys) [.own true (.hand n'), .un]
end
end L2.Pu
namespace L2.Pu
open PySem PySem.Spec PyProof.Rows
section
variable {P : Program} {w : World} {K : PySem.W.Frag} {mg : Str → Option Value} {base : Heap} {τ : Tb}
structure GoodM (m : Man) : Prop where
  nam : (nms m).Sublist ten
  imp : ∀ r ∈ m, r.2.Sublist (nms m)
end
end L2.Pu
namespace L2.Pu
open PySem PySem.Spec PyProof.Rows
section
variable {P : Program} {w : World} {K : PySem.W.Frag} {mg : Str → Option Value} {base : Heap} {τ : Tb}
instance (a b : Str) : Decidable (ltS a b) := inferInstanceAs (Decidable (_ ∧ _))
theorem ten_asc : ten.Pairwise ltS := by decide +kernel
theorem ten_ok : okS ten := by unfold okS; decide +kernel
theorem ten_len : ∀ x ∈ ten, (reprText x).length ≤ 10 := by decide +kernel
theorem GoodM.few {m : Man} (g : GoodM m) : (nms m).length ≤ 10 := g.nam.length_le
theorem GoodM.wf {m : Man} (g : GoodM m) : Wf m where
  asc := ten_asc.sublist g.nam
  inn := fun r hr y hy => (g.imp r hr).subset hy
  few := by have := g.few; rw [List.length_map] at this; exact this
  short := fun r hr => Nat.le_trans (g.imp r hr).length_le g.few
theorem GoodM.ok {m : Man} (g : GoodM m) : okS (nms m) := fun x hx => ten_ok x (g.nam.subset hx)
theorem GoodM.shown {m : Man} (g : GoodM m) : Fits (manD m) := by
  have row : ∀ d ∈ m.map rowD, Shows d 1000 2 := fun d hd => by
    obtain ⟨r, hr, rfl⟩ := List.mem_map.mp hd
    have h1 : r.1 ∈ ten := g.nam.subset (List.mem_map.mpr ⟨r, hr, rfl⟩)
    have h2 := shows_tupS (n := 10) (m := 10) (fun x hx => ten_len x (g.nam.subset ((g.imp r hr).subset hx))) (g.wf.short r hr)
    exact (Shows.tup (ShowsAll.cons (shows_str (k := 1) (ten_len _ h1)) (ShowsAll.cons h2 (ShowsAll.nil _)))).more (by omega) (by omega)
  refine (Shows.tup (shows_all row)).more ?_ (by omega)
  have := g.wf.few
  rw [List.length_map]
  have := Nat.mul_le_mul_right 1002 this
  omega
end
end L2.Pu
namespace L2.Pu
open PySem PySem.Spec PyProof.Rows
section
variable {P : Program} {w : World} {K : PySem.W.Frag} {mg : Str → Option Value} {base : Heap} {τ : Tb}
def spIsName : PSp := fun ss κ => ∃ d, ss = [.val d] ∧ Seen1 d ∧ κ (.bool (nameB d)) [.un]
theorem signs_map (x : Str) : ((signs x).map fun d => PyData.bool (signB d)) = (x.cps.toList.map fun c => decide (c ∈ lettersS.cps.toList)).map PyData.bool := by
  unfold signs
  rw [List.map_map, List.map_map]
  rfl
theorem atI_nat {α : Type} {ds : List α} {i : Nat} (h : i < ds.length) : atI ds (i : Int) = some ds[i] := by
  unfold atI ixN
  rw [if_pos (by omega), if_pos (by omega)]
  simp
end
end L2.Pu
namespace L2.Pu
open PySem PySem.Spec PyProof.Rows
section
variable {P : Program} {w : World} {K : PySem.W.Frag} {mg : Str → Option Value} {base : Heap} {τ : Tb}
/-- a request, as data -/
structure Req (m : Man) (r : List Str) : Prop where
  nam : ∀ x ∈ r, nameS x = true
  asc : r.Pairwise ltS
  inn : ∀ x ∈ r, x ∈ nms m
  few : r.length ≤ 400
open Classical in
theorem Req.ok {m : Man} {r : List Str} (h : Req m r) : reqB m (tupS r) = true := by
  unfold reqB
  exact decide_eq_true ⟨r, rfl, h.nam, h.asc, h.inn⟩
theorem Req.seen {m : Man} {r : List Str} (h : Req m r) : SeenT (tupS r) := seenT_of (fun x hx => Nat.le_trans (nameS_few (h.nam x hx)) (by decide)) (by have := h.few; omega)
end
theorem ten_name : ∀ x ∈ ten, nameS x = true := by decide +kernel
theorem GoodM.req {m : Man} (g : GoodM m) {r : List Str} (h : r.Sublist (nms m)) : Req m r :=
  ⟨fun x hx => ten_name x (g.nam.subset (h.subset hx)), g.wf.asc.sublist h, fun x hx => h.subset hx, by have := h.length_le; have := g.few; omega⟩
end L2.Pu
namespace L2.Pu
open PySem PySem.Spec PyProof.Rows
theorem fD_ft (x : Str) : fD (.ft x) = .tuple [.str "feature", .str x] := by simp only [fD]
theorem fD_nd (h : Str) (ps : List Fo) : fD (.nd h ps) = .tuple (.str h :: ps.map fD) := by simp only [fD, fDs_map]
theorem cut1 (d : PyData) (ds : List PyData) : cutD (d :: ds) (some 1) none = ds := by
  unfold cutD
  rw [HT.sIx_none, show HT.sIx (d :: ds).length 0 (some (1 : Int)) = min 1 (d :: ds).length from HT.sIx_nat _ _ 1, List.length_cons, Nat.min_eq_left (by omega)]
  show (ds.take (ds.length + 1 - 1)) = ds
  rw [Nat.add_sub_cancel, List.take_of_length_le (Nat.le_refl _)]
theorem at0 (d : PyData) (ds : List PyData) : atI (d :: ds) 0 = some d := atI_nat (ds := d :: ds) (i := 0) (by simp)
theorem hold_ft (S : List Str) (x : Str) : hold S (.ft x) = decide (x ∈ S) := by simp only [hold]
theorem hold_nd (S : List Str) (h : Str) (ps : List Fo) : hold S (.nd h ps) = if h = "not" then !((ps.map (hold S)).headD false) else if h = "all" then (ps.map (hold S)).all id else (ps.map (hold S)).any id := by simp only [hold, holdL_map]
theorem tall_nd {h : Str} {ps : List Fo} {n : Nat} : tall (.nd h ps) ≤ n + 1 ↔ ∀ f ∈ ps, tall f ≤ n := by simp only [tall, Nat.add_le_add_iff_right, tallAll_le]
theorem qss_no' {X : Cx} {τ : Tb} {sts : List Stmt} : PQSs τ X sts qNo := ⟨fun pins s σ H D I h => by obtain ⟨F, ρ, C, R, κ, k, _⟩ := h; exact False.elim k⟩
section
variable {P : Program} {w : World} {K : PySem.W.Frag} {mg : Str → Option Value} {base : Heap} {τ : Tb}
theorem tall_pos (f : Fo) : 1 ≤ tall f := by cases f <;> simp only [tall] <;> omega
end
end L2.Pu
namespace L2.Pu
open PySem PySem.Spec PyProof.Rows
section
variable {X : Cx} {τ : Tb} {pos : Pos} {a : Expr} {qa : QE}
end
section
variable {P : Program} {w : World} {K : PySem.W.Frag} {mg : Str → Option Value} {base : Heap} {τ : Tb}
end
end L2.Pu
namespace L2.Pu
open PySem PySem.Spec PyProof.Rows
section
variable {P : Program} {w : World} {K : PySem.W.Frag} {mg : Str → Option Value} {base : Heap} {τ : Tb}
end
end L2.Pu
namespace L2.Pu
open PySem PySem.Spec PyProof.Rows
def twelve : List Str := ["f", "g", "h", "item", "k", "lock", "m", "n", "o", "panic", "vec", "z"]
theorem cut_take (ds : List PyData) (i : Nat) : cutD ds none (some (i : Int)) = ds.take i := by
  unfold cutD
  rw [HT.sIx_none, HT.sIx_nat, List.drop_zero, Nat.sub_zero]
  rcases Nat.le_total i ds.length with h | h
  · rw [Nat.min_eq_left h]
  · rw [Nat.min_eq_right h, List.take_of_length_le (Nat.le_refl _), List.take_of_length_le h]
section
variable {P : Program} {w : World} {K : PySem.W.Frag} {mg : Str → Option Value} {base : Heap} {τ : Tb}
structure LibX (is : Its) : Prop where
  names : (is.map (·.1)).Sublist twelve
  rows : ∀ i ∈ is, i.2 ≠ [] ∧ i.2.length ≤ 6 ∧ ∀ r ∈ i.2, tall r.1 ≤ 3
end
end L2.Pu
namespace L2.Pu
open PySem PySem.Spec PyProof.Rows
section
variable {P : Program} {w : World} {K : PySem.W.Frag} {mg : Str → Option Value} {base : Heap} {τ : Tb}
end
end L2.Pu

set_option Elab.async false
set_option linter.all false
set_option maxRecDepth 100000
set_option maxHeartbeats 4000000
namespace L2.Pu
open PySem PySem.Spec PyProof.Rows
def intIn (lo hi : Int) : PyData → Bool
  | .int i => decide (lo ≤ i) && decide (i ≤ hi)
  | _ => false
theorem ints_mem {ds : List PyData} (lo hi : Int) (h : ds.all (intIn lo hi) = true) {d : PyData} (hd : d ∈ ds) : ∃ i : Int, d = .int i ∧ lo ≤ i ∧ i ≤ hi := by
  have := List.all_eq_true.mp h d hd
  cases d with
  | int i =>
    unfold intIn at this
    rw [Bool.and_eq_true] at this
    exact ⟨i, rfl, of_decide_eq_true this.1, of_decide_eq_true this.2⟩
  | _ => cases this
theorem nats_mem {ds : List PyData} (hi : Nat) (h : ds.all (intIn 0 hi) = true) {d : PyData} (hd : d ∈ ds) : ∃ i : Nat, d = .int i ∧ i ≤ hi := by
  obtain ⟨i, rfl, h0, h1⟩ := ints_mem 0 hi h hd
  obtain ⟨n, rfl⟩ := Int.eq_ofNat_of_zero_le h0
  exact ⟨n, rfl, by omega⟩
theorem twelve_asc : twelve.Pairwise ltS := by decide +kernel
theorem LibX.asc {is : Its} (x : LibX is) : (is.map (·.1)).Pairwise ltS := twelve_asc.sublist x.names
end L2.Pu

set_option Elab.async false
set_option linter.all false
set_option maxRecDepth 100000
set_option maxHeartbeats 4000000
/-! ## How long libraries and steps are when shown -/
namespace L2.Pu
open PySem PySem.Spec PyProof.Rows
theorem GoodM.names {m : Man} (g : GoodM m) : ∀ x ∈ nms m, (reprText x).length ≤ 10 := fun x hx => ten_len x (g.nam.subset hx)
theorem GoodM.shows {m : Man} (g : GoodM m) : Shows (manD m) 11000 3 := by
  have row : ∀ d ∈ m.map rowD, Shows d 1000 2 := fun d hd => by
    obtain ⟨r, hr, rfl⟩ := List.mem_map.mp hd
    have h1 : r.1 ∈ ten := g.nam.subset (List.mem_map.mpr ⟨r, hr, rfl⟩)
    have h2 := shows_tupS (n := 10) (m := 10) (fun x hx => ten_len x (g.nam.subset ((g.imp r hr).subset hx))) (g.wf.short r hr)
    exact (Shows.tup (ShowsAll.cons (shows_str (k := 1) (ten_len _ h1)) (ShowsAll.cons h2 (ShowsAll.nil _)))).more (by omega) (by omega)
  refine (Shows.tup (shows_all row)).more ?_ (by omega)
  have := g.wf.few
  rw [List.length_map]
  have := Nat.mul_le_mul_right 1002 this
  omega
/-! ### steps that break -/
structure BrOk (b : List Str × Str × Str) : Prop where
  cs : ∀ x ∈ b.1, (reprText x).length ≤ 10 ∧ PyData.canLay0 (.str x) = true
  few : b.1.length ≤ 10
  x : (reprText b.2.1).length ≤ 10 ∧ PyData.canLay0 (.str b.2.1) = true
  i : (reprText b.2.2).length ≤ 10 ∧ PyData.canLay0 (.str b.2.2) = true
end L2.Pu

set_option Elab.async false
set_option linter.all false
set_option maxRecDepth 100000
set_option maxHeartbeats 4000000
namespace L2.Pu
open PySem PySem.Spec PyProof.Rows
def spLawP : PSp := fun ss κ => ∃ ns : List Int, ss = [.scr ns] ∧ ns.length ≤ 63 ∧ κ (.bool true) [.un]
theorem rng_mem {d : PyData} {n : Nat} (h : d ∈ rngD 0 n) : ∃ i : Nat, d = .int i ∧ i < n := by
  unfold rngD at h
  obtain ⟨i, hi, rfl⟩ := List.mem_map.mp h
  exact ⟨i, by simp, List.mem_range.mp hi⟩
end L2.Pu

set_option Elab.async false
set_option linter.all false
set_option maxRecDepth 100000
set_option maxHeartbeats 4000000
namespace L2.Pu
open PySem PySem.Spec PyProof.Rows
section
variable {m : Man}
end
/-! ### safe features -/
theorem OkI.take {N : List Str} {is : Its} (h : OkI N is) (n : Nat) : OkI N (is.take n) := ⟨by rw [List.length_take]; have := h.few; omega, fun i hi => h.rows i (List.mem_of_mem_take hi), fun i hi => h.nam i (List.mem_of_mem_take hi)⟩
theorem LibX.take {is : Its} (h : LibX is) (n : Nat) : LibX (is.take n) := ⟨by rw [List.map_take]; exact (List.take_sublist _ _).trans h.names, fun i hi => h.rows i (List.mem_of_mem_take hi)⟩
end L2.Pu

set_option Elab.async false
set_option linter.all false
set_option maxRecDepth 100000
set_option maxHeartbeats 4000000
/-! ## Names that are forgotten ahead of a statement -/
namespace L2.Pu
open PySem PySem.Spec PyProof.Rows
/-! ### the way from one closed request to a greater one -/
end L2.Pu

set_option Elab.async false
set_option linter.all false
set_option maxRecDepth 100000
set_option maxHeartbeats 4000000
namespace L2.Pu
open PySem PySem.Spec PyProof.Rows
/-- the same over things of one kind -/
theorem lcL_of {α : Type} {g : QG} {tt : QT} {te : QE} {vs : List Nat} {κ : List PyData → Ro → Prop} {ρ : Ro} (c : α → PyData) (f : α → Option PyData) : ∀ (l : List α) (acc : List PyData),
    (∀ a ∈ l, ∀ K : Option PyData → Ro → Prop, K (f a) ρ → g (c a) ρ fun ρ1 => tt ρ1 fun b ρ2 => yn b (te ρ2 fun y ρ3 => K (some y) (wipeR ρ3 vs)) (K none (wipeR ρ2 vs))) → κ (acc ++ l.filterMap f) ρ → lcL g tt te vs κ (l.map c) acc ρ
  | [], acc, _, k => by rw [List.filterMap_nil, List.append_nil] at k; exact k
  | d :: ds, acc, h, k => by
    let K : Option PyData → Ro → Prop := fun o ρ' => match o with
      | some y => (acc ++ [y] = acc ++ (f d).toList ∧ ρ' = ρ)
      | none => acc = acc ++ (f d).toList ∧ ρ' = ρ
    refine ⟨fun acc' ρ' => acc' = acc ++ (f d).toList ∧ ρ' = ρ, fun acc' ρ' h' => ?_, ?_⟩
    · obtain ⟨rfl, rfl⟩ := h'
      refine lcL_of c f ds _ (fun d hd => h d (List.mem_cons_of_mem _ hd)) ?_
      rw [List.filterMap_cons] at k
      rw [List.append_assoc]
      cases hf : f d with
      | none => rw [hf] at k; exact k
      | some y => rw [hf] at k; exact k
    · refine h d List.mem_cons_self K ?_
      show K (f d) ρ
      cases hf : f d with
      | none => show acc = acc ++ (f d).toList ∧ ρ = ρ; rw [hf]; exact ⟨(List.append_nil _).symm, rfl⟩
      | some y => show acc ++ [y] = acc ++ (f d).toList ∧ ρ = ρ; rw [hf]; exact ⟨rfl, rfl⟩
/-- each thing gives one -/
theorem lcL_each {α : Type} {g : QG} {te : QE} {vs : List Nat} {κ : List PyData → Ro → Prop} {ρ : Ro} (c f : α → PyData) (l : List α)
    (h : ∀ a ∈ l, ∀ K : PyData → Ro → Prop, K (f a) ρ → g (c a) ρ fun ρ1 => te ρ1 fun y ρ3 => K y (wipeR ρ3 vs)) (k : κ (l.map f) ρ) : lcL g qYes te vs κ (l.map c) [] ρ := by
  refine lcL_of c (fun a => some (f a)) l [] (fun a ha K hK => ?_) (by rw [List.nil_append, List.filterMap_eq_map']; exact k)
  exact h a ha (fun y ρ => K (some y) ρ) hK
end L2.Pu

set_option Elab.async false
set_option linter.all false
set_option maxRecDepth 100000
set_option maxHeartbeats 4000000
/-! ## sorted(t), t a tuple of texts -/
namespace L2.Pu
open PySem PySem.Spec PyProof.Rows
section
variable {prog : Program} {w : World} {A : Around} {E : Value → Shared → Prop} {s : Shared}
end
section
variable {X : Cx}
end
section
variable {X : Cx} {τ : Tb} {pos p : Pos} {e : Expr} {es : List Expr}
/-! ### min and max of a list of whole numbers -/
end
end L2.Pu

set_option Elab.async false
set_option linter.all false
set_option maxRecDepth 100000
set_option maxHeartbeats 4000000
/-! ## Who loses something by whom -/
namespace L2.Pu
open PySem PySem.Spec PyProof.Rows
end L2.Pu

set_option Elab.async false
set_option linter.all false
set_option maxRecDepth 100000
set_option maxHeartbeats 4000000
/-! ## Users -/
namespace L2.Pu
open PySem PySem.Spec PyProof.Rows
abbrev Us := Str × List Str × List Str
/-- names of users that may stand -/
structure NamesOk (l : List Str) : Prop where
  asc : l.Pairwise ltS
  nam : ∀ x ∈ l, nameS x = true
  len : ∀ x ∈ l, (reprText x).length ≤ 10
  lay : ∀ x ∈ l, PyData.canLay0 (.str x) = true
theorem NamesOk.sub {a b : List Str} (h : NamesOk b) (s : a.Sublist b) : NamesOk a := ⟨h.asc.sublist s, fun x hx => h.nam x (s.subset hx), fun x hx => h.len x (s.subset hx), fun x hx => h.lay x (s.subset hx)⟩
/-- a user of the library -/
structure UsOk (m : Man) (is : Its) (u : Us) : Prop where
  req : u.2.1.Sublist (nms m)
  its : u.2.2.Sublist ((viewL is (clo m u.2.1)).map (·.1))
structure GoodU (m : Man) (is : Its) (us : List Us) : Prop where
  names : NamesOk (us.map (·.1))
  ok : ∀ u ∈ us, UsOk m is u
  few : us.length ≤ 8
theorem GoodU.sub {m : Man} {is : Its} {us vs : List Us} (h : GoodU m is us) (s : vs.Sublist us) : GoodU m is vs := ⟨h.names.sub (s.map _), fun u hu => h.ok u (s.subset hu), Nat.le_trans s.length_le h.few⟩
/-! ### comparing, showing -/
/-- a name and an item that can be shown and compared -/
structure NiOk (p : Str × Str) : Prop where
  n : (reprText p.1).length ≤ 10 ∧ PyData.canLay0 (.str p.1) = true
  i : (reprText p.2).length ≤ 10 ∧ PyData.canLay0 (.str p.2) = true
end L2.Pu

set_option Elab.async false
set_option linter.all false
set_option maxRecDepth 100000
set_option maxHeartbeats 4000000
namespace L2.Pu
open PySem PySem.Spec PyProof.Rows
/-! ### claims -/
end L2.Pu

set_option Elab.async false
set_option linter.all false
set_option maxRecDepth 100000
set_option maxHeartbeats 4000000
/-! ## Features that are safe, by steps; the library that is mended -/
namespace L2.Pu
open PySem PySem.Spec PyProof.Rows
def m0 : Man := [("a", ["b"]), ("b", [])]
theorem n1 : ("any" : Str) ≠ "not" := by decide +kernel
theorem n2 : ("any" : Str) ≠ "all" := by decide +kernel
theorem n3 : ("all" : Str) ≠ "not" := by decide +kernel
end L2.Pu

set_option Elab.async false
set_option linter.all false
set_option maxRecDepth 100000
set_option maxHeartbeats 4000000
/-! ## Data with dicts: shown; displays of dicts -/
namespace L2.Pu
open PySem PySem.Spec PyProof.Rows
mutual
/-- no dict whose keys are tuples -/
def noTK : PyData → Bool
  | .list ds => noTKs ds
  | .tuple ds => noTKs ds
  | .dict es => noTKe es
  | _ => true
def noTKs : List PyData → Bool
  | [] => true
  | d :: ds => noTK d && noTKs ds
def noTKe : List (PyData × PyData) → Bool
  | [] => true
  | (.tuple _, _) :: _ => false
  | (_, d) :: es => noTK d && noTKe es
end
theorem noTKe_map : ∀ {es : List (Key × PyData)}, noTKe (es.map fun e => (keyD e.1, e.2)) = true → noTKs (es.map (·.2)) = true
  | [], _ => by simp only [List.map_nil, noTKs]
  | (.inl i, d) :: es, h => by
    simp only [List.map_cons, keyD, noTKe, Bool.and_eq_true] at h
    simp only [List.map_cons, noTKs, Bool.and_eq_true]
    exact ⟨h.1, noTKe_map h.2⟩
  | (.inr x, d) :: es, h => by
    simp only [List.map_cons, keyD, noTKe, Bool.and_eq_true] at h
    simp only [List.map_cons, noTKs, Bool.and_eq_true]
    exact ⟨h.1, noTKe_map h.2⟩
/-- the table of modules stands in the base -/
def SysB (base : Heap) : Prop := ∃ mm, base.Ns sysModules mm
section
variable {X : Cx} {τ : Tb} {pins : List (Addr × Obj)} {σ : St} {H : Hp} {s : Shared}
theorem SysB.ne (I : Inv X pins σ H s) (h : SysB X.base) {a : Addr} {o : Obj} {us : Array Value} {n : Nat} (e : s.heap.get? a = some o) (d : o.data = .seq us n) : a ≠ sysModules := by
  obtain ⟨mm, o', es, ep, e', d', _⟩ := h
  rintro rfl
  rw [I.bk _ _ e'] at e
  cases e
  rw [d'] at d
  cases d
theorem Da.readsA (I : Inv X pins σ H s) (hs : SysB X.base) {v : V} {d : PyData} (h : Da X.w H v d) : noTK d = true → ∀ u : Value, RelV v u → ∃ as, Reads s.heap u d as ∧ sysModules ∉ as := by
  refine Da.rec (motive_1 := fun v d _ => noTK d = true → ∀ u : Value, RelV v u → ∃ as, Reads s.heap u d as ∧ sysModules ∉ as) (motive_2 := fun vs ds _ => noTKs ds = true → ∀ us : List Value, Vals vs us → ∃ as, ReadsAll s.heap us ds as ∧ sysModules ∉ as)
    ?_ ?_ ?_ ?_ ?_ ?_ ?_ ?_ ?_ ?_ h
  · intro _ u r
    cases (show u = Value.none from r)
    exact ⟨[], .none, fun z => nomatch z⟩
  · intro b _ u r
    cases (show u = Value.bool b from r)
    exact ⟨[], .bool b, fun z => nomatch z⟩
  · intro i _ u r
    obtain ⟨t, rfl⟩ := (show ∃ t, u = Value.int i t from r)
    exact ⟨[], .int i t, fun z => nomatch z⟩
  · intro x _ u r
    obtain ⟨t, rfl⟩ := (show ∃ t, u = Value.str x t from r)
    exact ⟨[], .str x t, fun z => nomatch z⟩
  · intro a xs ds e n _ ih nt u r
    cases (show u = Value.ref a from r)
    obtain ⟨_, its, m, rv, ho⟩ := (show ObjOk X.prog X.w H s.heap a (.lst xs) from I.hok a _ e)
    obtain ⟨as, q, z⟩ := ih (by simpa only [noTK] using nt) its rv
    exact ⟨a :: as, .list ho rfl rfl (by simpa using q), fun t => (List.mem_cons.mp t).elim (fun y => hs.ne I ho rfl y.symm) z⟩
  · intro a ob xs ds e _ _ ih nt u r
    cases (show u = Value.ref a from r)
    obtain ⟨_, its, rv, o, ho, hc, m, hd⟩ := (show ObjOk X.prog X.w H s.heap a (.tup xs) from (I.hok a _ e).2)
    obtain ⟨as, q, z⟩ := ih (by simpa only [noTK] using nt) its rv
    exact ⟨as, .tuple ho hc hd (by simpa using q), z⟩
  · intro a ob kvs es e hk hall ih nt u r
    cases (show u = Value.ref a from r)
    obtain ⟨_, ny, vs, rv, o, es', ep, ho, hx, hd, _, pr, _⟩ := (show ObjOk X.prog X.w H s.heap a (.dK kvs) from (I.hok a _ e).2)
    obtain ⟨q1, q2⟩ := kv_reads (h := s.heap) pr rv
    obtain ⟨as, q3, z⟩ := ih (noTKe_map (by simpa only [noTK] using nt)) _ q2
    have ek : (kvs.map fun kv => keyD kv.1) = (es.map (·.1)).map keyD := by rw [← hk, List.map_map]; rfl
    rw [ek] at q1
    refine ⟨a :: [] ++ as, .dict ho hx.1 hd (by rw [map_fst2]; exact q1) (by rw [map_snd2]; exact q3), fun t => ?_⟩
    rcases List.mem_cons.mp (show sysModules ∈ a :: as from t) with y | y
    · exact absurd y.symm (fun y' => by rw [y'] at ny; exact absurd ny (by decide))
    · exact z y
  · intro a ob u zs rds e dt ks hk ne hall ih nt
    cases rds with
    | nil => exact absurd rfl ne
    | cons r rds => simp only [noTK, List.map_cons, noTKe] at nt; cases nt
  · intro _ us r
    cases r
    exact ⟨[], .nil, fun z => nomatch z⟩
  · intro v vs d ds _ _ i1 i2 nt us r
    simp only [noTKs, Bool.and_eq_true] at nt
    cases r with
    | cons r1 r2 =>
      obtain ⟨as, q1, z1⟩ := i1 nt.1 _ r1
      obtain ⟨bs, q2, z2⟩ := i2 nt.2 _ r2
      exact ⟨as ++ bs, .cons q1 q2, fun t => (List.mem_append.mp t).elim z1 z2⟩
/-- data that repr shows, with dicts in it -/
structure ShowA (d : PyData) (n k : Nat) : Prop where
  can : d.showable = true
  few : d.shown.length ≤ n
  flat : d.depth ≤ k
  noT : noTK d = true
abbrev FitA (d : PyData) : Prop := ShowA d 16000000 60
def rReprA (X : Cx) : RN := fun xs H Q => ∃ (x : V) (d : PyData), xs = [x] ∧ Da X.w H x d ∧ FitA d ∧ Q (.str d.shown) H
theorem call_reprA (hs : SysB X.base) (gd : X.A.guards = some []) (hu : X.A.units + 64 < cLine) : CallR X (.builtin "repr") (rReprA X) := by
  intro pins s σ H xs us Q I r h
  obtain ⟨x, d, rfl, hd, sh, q⟩ := h
  have hz : d.shown.length ≤ sizeLine := line_le sh.few
  have hdp := sh.flat
  cases r with
  | @cons _ u _ ur ru rn =>
    cases rn
    obtain ⟨as, rd, hsm⟩ := hd.readsA I hs sh.noT u ru
    have can := sh.can
    cases hd with
    | non =>
      cases (show u = Value.none from ru)
      exact PySem.P.repr_of_none ⟨.str _, H, I.tok _, ⟨_, rfl⟩, q⟩
    | bl b =>
      cases (show u = Value.bool b from ru)
      exact PySem.P.repr_of_bool ⟨.str _, H, I.tok _, ⟨_, rfl⟩, q⟩
    | int i =>
      obtain ⟨t, rfl⟩ := (show ∃ t, u = Value.int i t from ru)
      exact PySem.P.repr_of_int (by simpa [PyData.showable] using can) ⟨.str _, H, I.tok _, ⟨_, rfl⟩, q⟩
    | str x =>
      obtain ⟨t, rfl⟩ := (show ∃ t, u = Value.str x t from ru)
      exact PySem.P.repr_of_str ⟨.str _, H, I.tok _, ⟨_, rfl⟩, q⟩ hz
    | lst e n ha =>
      cases ru
      exact repr_of_reads' rd can (fun _ => hsm) gd (by omega) (fun _ _ z => z) (fun h' t tk hk => ⟨.str _, H, I.kept hk, ⟨_, rfl⟩, q⟩) hz
    | tup e _ ha =>
      cases ru
      exact repr_of_reads' rd can (fun _ => hsm) gd (by omega) (fun _ _ z => z) (fun h' t tk hk => ⟨.str _, H, I.kept hk, ⟨_, rfl⟩, q⟩) hz
    | dicT e dt ks hk ne ha =>
      cases ru
      exact repr_of_reads' rd can (fun _ => hsm) gd (by omega) (fun _ _ z => z) (fun h' t tk hk => ⟨.str _, H, I.kept hk, ⟨_, rfl⟩, q⟩) hz
    | dic e k ha =>
      cases ru
      exact repr_of_reads' rd can (fun _ => hsm) gd (by omega) (fun _ _ z => z) (fun h' t tk hk => ⟨.str _, H, I.kept hk, ⟨_, rfl⟩, q⟩) hz
end
section
variable {X : Cx} {τ : Tb} {pos p : Pos} {e : Expr} {q : QE}
def reprA : PyData → (PyData → Prop) → Prop := fun d P => FitA d ∧ P (.str d.shown)
theorem qe_reprA (hs : SysB X.base) (gd : X.A.guards = some []) (hu : X.A.units + 64 < cLine) (hg : Gl X "repr") (hm : X.mg "repr" = none) (h : PQ τ X e q) (he : starEach [e] X.env = (false, eval e X.env) :: starEach [] X.env := by rfl) (hpl : (backTo pos (starEach [] X.env)).any (·.1) = false := by rfl) :
    PQ τ X (.Call (.Name "repr" p) [e] [] pos) (qUn reprA q) := by
  refine pe_imp _ (pe_callB (call_reprA hs gd hu) hg hm (by decide +kernel) (pa_cons h pa_nil he) (by decide) (by decide) he hpl) ?_
  rintro σ H Q ⟨F, ρ, C, R, κ, k, z⟩
  refine ⟨F, ρ, C, R, _, k, fun d ρ1 v C1 H1 k1 s1 R1 d1 => ?_⟩
  exact ⟨v, d, rfl, d1.mono R1.sub, k1.1, z _ _ _ _ _ k1.2 s1 R1 (.str _)⟩
/-! ### {} and {'a': e} as data -/
end
end L2.Pu

set_option Elab.async false
set_option linter.all false
set_option maxRecDepth 100000
set_option maxHeartbeats 4000000
/-! ## The law's call, with tables of code objects -/
namespace L2.Pu
open PySem PySem.Spec PyProof.Rows
theorem lawT_atS {P : Program} {w : World} {K : PySem.W.Frag} {mg mb : Str → Option Value} {k : Nat} {fa a : Addr} {cs : List (Addr × Addr)} {fd : FuncData} {x : Str} {sp : Heap → Sp} {s1 : Shared} {vs : List Value} {H : Hp}
    (KX : K.In s1.heap) (nsG : s1.heap.Ns mainGlobals mg) (nsB : s1.heap.Ns builtinsNs mb) (isB : ∀ x : Str, x ≠ "__name__" → mb x = bootBuiltins x) (lim : s1.heap.NoLimit) (gens : s1.gens = #[])
    (emp : ∀ p ∈ cs, s1.heap.get? p.2 = some { cls := .none, data := .fields #[] }) (outK : ∀ p ∈ cs, K.lookup p.2 = none) (hd : ∀ p ∈ cs, PySem.W.CodeHd s1.heap p.1 p.2)
    (bmod : ∃ (bm : Addr) (ob : Obj), mg "__builtins__" = some (.ref bm) ∧ bm ≠ builtinsNs ∧ s1.heap.get? bm = some ob ∧ ob.cls = .type "module" ∧ ob.dict = some builtinsNs ∧ ob.data = .plain)
    (sc : s1.heap.get? a = some { cls := .type "list", data := .seq vs.toArray }) (hr : Room k callerA)
    (sysN : ∃ mm, s1.heap.Ns sysModules mm) (F : ∀ base : Heap, K.In base → base.Ns mainGlobals mg → SysB base → (∀ p ∈ cs, LamX.TabB base mg p.1 p.2) → Fu.FnG P w K mg base CX0 k fa fd [x] (sp base)) (hbind : ∀ (s : Shared) (u : Value), BindsTo s fd ⟨[u], []⟩ [(x, u)])
    (tab : ∀ p ∈ cs, H p.2 = some (.tbl #[])) (only : ∀ b, H b = none ∨ b ∈ cs.map (·.2) ∨ ∃ o xs, H b = some (.frz o (.lst xs))) (hok : HOk P w H s1.heap) (at_a : ∀ b, H b ≠ none → b = a ∨ b ∈ cs.map (·.2)) (offK : H a ≠ none → K.lookup a = none)
    (hsp : sp (hidT s1.heap H) [.ref a] H (fun v _ => v = .bl true) fun _ _ _ => False) :
    codeAny (model P w) callerA (.call (.ref fa) ⟨[.ref a], []⟩) (fun r s' => r = .ok (.ret (.bool true)) ∧ OldK s1.heap s'.heap ∧ s'.os = s1.os ∧ AllBare s'.gens) s1 := by
  have isTab : ∀ b, b ∈ cs.map (·.2) → s1.heap.get? b = some { cls := .none, data := .fields #[] } := fun b m => by
    obtain ⟨p, hp, rfl⟩ := List.mem_map.mp m
    exact emp p hp
  -- what is neither a list nor an empty table is not tracked
  have off : ∀ (b : Addr) (o : Obj), s1.heap.get? b = some o → (∀ us n, o.data ≠ .seq us n) → o.data ≠ .fields #[] → H b = none := fun b o e h1 h2 => by
    cases q : H b with
    | none => rfl
    | some u =>
      rcases at_a b (by rw [q]; exact Option.some_ne_none u) with rfl | m
      · rw [sc] at e; cases e; exact absurd rfl (h1 _ _)
      · rw [isTab b m] at e; cases e; exact absurd rfl h2
  have nsHid : ∀ (b : Addr) (m : Str → Option Value), s1.heap.Ns b m → (hidT s1.heap H).Ns b m := by
    rintro b m ⟨o, es, ep, e, d, r⟩
    refine ⟨o, es, ep, hidT_get e (off b o e (fun us n z => ?_) fun z => ?_), d, r⟩
    · rw [d] at z; cases z
    · rw [d] at z; cases z
  have inHid : K.In (hidT s1.heap H) := by
    intro b o e
    refine hidT_get (KX b o e) ?_
    cases q : H b with
    | none => rfl
    | some u =>
      have nn : H b ≠ none := by rw [q]; exact Option.some_ne_none u
      rcases at_a b nn with rfl | m
      · rw [offK nn] at e; cases e
      · obtain ⟨p, hp, rfl⟩ := List.mem_map.mp m
        rw [outK p hp] at e; cases e
  obtain ⟨mc, c1, c2⟩ := lim
  have modH : Mod K mg (hidT s1.heap H) := ⟨inHid, nsHid _ _ nsG, ⟨mb, nsHid _ _ nsB, isB⟩, ⟨mc, nsHid _ _ c1, c2⟩⟩
  have TB : ∀ p ∈ cs, LamX.TabB (hidT s1.heap H) mg p.1 p.2 := fun p hp => by
    have ep := emp p hp
    obtain ⟨og, es, epo, eg, dg, _⟩ := id nsG
    refine ⟨?_, ?_, fun z => ?_⟩
    · obtain ⟨o, us, file, tf, flags, tg, inF, text, tt, e1, r1, r2, r3, rest⟩ := hd p hp
      refine ⟨o, us, file, tf, flags, tg, inF, text, tt, hidT_get e1 (off _ _ e1 (fun _ _ z => ?_) fun z => ?_), r1, r2, r3, rest⟩
      · rw [r2] at z; cases z
      · rw [r2] at z; cases z; simp at r3
    · obtain ⟨bm, ob, b1, b2, b3, b4, b5, b6⟩ := bmod
      refine ⟨bm, ob, b1, b2, fun q => ?_, fun q => ?_, hidT_get b3 (off _ _ b3 (fun _ _ z => ?_) fun z => ?_), b4, b5, b6⟩
      · rw [q, eg] at b3; cases b3; rw [dg] at b6; cases b6
      · rw [q, ep] at b3; cases b3; cases b6
      · rw [b6] at z; cases z
      · rw [b6] at z; cases z
    · rw [z, ep] at eg; cases eg; cases dg
  have e0 : Env0 P w K mg (hidT s1.heap H) callerA [] s1 H :=
    { frames := rfl, mod := modH, bs := fun b o e => of_hidT e, bsz := Nat.le_of_eq (hidT_size _ _), funs := trivial, frf := (fun b z => nomatch z), hok := hok, bare := .of_eq gens }
  refine codeAny_mono ((F _ inHid (nsHid _ _ nsG) (sysN.elim fun mm h => ⟨mm, nsHid _ _ h⟩) TB).go callerA [] s1 H ⟨[.ref a], []⟩ [.ref a] [.ref a] _ _ rfl hr e0 (hbind s1 (.ref a)) (.cons rfl .nil) hsp) fun r s' h => ?_
  match r, h with
  | .error e, h => exact h.elim
  | .ok .next, h => exact h.elim
  | .ok .brk, h => exact h.elim
  | .ok .cont, h => exact h.elim
  | .ok (.ret u), h =>
    obtain ⟨v, H', os, bare, un, hok', r', q⟩ := h
    obtain rfl : v = V.bl true := q
    obtain rfl : u = Value.bool true := r'
    have stay : ∀ b o, b ∉ cs.map (·.2) → s1.heap.get? b = some o → s'.heap.get? b = some o := fun b o nb e => by
      rcases only b with z | z | ⟨ob, xs, z⟩
      · exact un.keep b o e z (fun t => nomatch t) fun t => nomatch t
      · exact absurd z nb
      · have old := (hok b _ z).1
        rw [e] at old; cases old
        exact (hok' b _ (un.frzs b o _ z)).1
    have grown : ∀ p ∈ cs, ∃ more : Array Value, s'.heap.get? p.2 = some { cls := .none, data := .fields more } := fun p hp => by
      obtain ⟨more, z⟩ := un.tbls p.2 #[] (tab p hp)
      exact ⟨_, hok' p.2 _ z⟩
    refine ⟨rfl, ⟨fun b o e => ?_, fun b o e => ?_⟩, os, bare⟩
    · by_cases m : b ∈ cs.map (·.2)
      · obtain ⟨p, hp, rfl⟩ := List.mem_map.mp m
        obtain ⟨more, hm⟩ := grown p hp
        rw [emp p hp] at e; cases e
        exact .inr (.inl ⟨((hd p hp).tab (emp p hp)).isCodeTable, rfl, #[], more, rfl, by rw [Array.empty_append]; exact hm⟩)
      · exact .inl (stay b o m e)
    · by_cases m : b ∈ cs.map (·.2)
      · obtain ⟨p, hp, rfl⟩ := List.mem_map.mp m
        obtain ⟨more, hm⟩ := grown p hp
        exact ⟨_, hm⟩
      · exact ⟨o, stay b o m e⟩
end L2.Pu
/-! ## The end -/
namespace L2.Pu
open PySem PySem.Spec PyProof.Rows
theorem endTS {l : PySem.W.OpenLaw} {n k : Nat} {q : Program} {loose : List Str} {XP : (Str → Option Value) → Heap → Prop} {YP : World → Heap → Prop} {d : DefRec} {K : Params → PySem.W.Frag} {sp : PSp} {x : Str}
    (hn : l.most = some n) (hn2 : n ≤ sizeLine) (hdf : d.params.defaults = []) (hr : Room k callerA) (hi : importsNone q = true) (hY : ∀ (w : World) (h : Heap), YP w h → (K w.params).In h)
    (F : ∀ (w : World) (mg : Str → Option Value) (fa : Addr) (h : Heap), YP w h → (K w.params).In h → h.Ns mainGlobals mg → mg d.name = some (.ref fa) →
      ∃ (fd : FuncData) (ts : List (Addr × Addr × Str)), (∀ t ∈ ts, h.get? t.2.1 = some { cls := .none, data := .fields #[] } ∧ (K w.params).lookup t.2.1 = none ∧ PySem.W.CodeHd h t.1 t.2.1) ∧
        (∀ (s : Shared) (u : Value), BindsTo s fd ⟨[u], []⟩ [(x, u)]) ∧
        ∀ base : Heap, (K w.params).In base → base.Ns mainGlobals mg → SysB base → (∀ t ∈ ts, LamX.TabB base mg t.1 t.2.1) → Fu.FnG l.prog w (K w.params) mg base CX0 k fa fd [x] (liftP ⟨l.prog, w, K w.params, ts.map fun t => (t.2.1, t.2.2), base⟩ sp))
    (hsp : ∀ ns : List Int, ns.length ≤ n → ∀ κ : PyData → List Slot → Prop, κ (.bool true) [.un] → sp [.scr ns] κ) :
    PySem.W.WalkO q loose XP YP l.row.toRowW d [] (fun f vs => PySem.call f vs) := by
  refine Att.attach_callB hn hdf fun w s0 s1 mg mb fa o pm cd doc a vs ns G Y ho hd hcd hmg hobj hints hlen hbits hg => ?_
  have KX := hY w _ Y
  obtain ⟨fd, ts, tabs, hb, hF⟩ := F w mg fa _ Y KX G.T.g hmg
  have rv := vals_ints hints
  have sz : ns.length ≤ sizeLine := Nat.le_trans hlen hn2
  have inT : ∀ {b : Addr}, b ∈ (ts.map fun t => (t.1, t.2.1)).map (·.2) ↔ ∃ q, (b, q) ∈ ts.map fun t => (t.2.1, t.2.2) := fun {b} => by
    constructor
    · intro m
      rw [List.map_map] at m
      obtain ⟨t, ht, rfl⟩ := List.mem_map.mp m
      exact ⟨t.2.2, List.mem_map.mpr ⟨t, ht, rfl⟩⟩
    · rintro ⟨q, m⟩
      obtain ⟨t, ht, e⟩ := List.mem_map.mp m
      cases e
      rw [List.map_map]; exact List.mem_map.mpr ⟨t, ht, rfl⟩
  have isT : ∀ b, b ∈ (ts.map fun t => (t.1, t.2.1)).map (·.2) → s1.heap.get? b = some { cls := .none, data := .fields #[] } := fun b m => by
    rw [List.map_map] at m
    obtain ⟨t, ht, rfl⟩ := List.mem_map.mp m
    exact (tabs t ht).1
  have aT : a ∉ (ts.map fun t => (t.1, t.2.1)).map (·.2) := fun z => by
    have e := isT a z
    rw [hobj] at e
    cases congrArg Obj.data (Option.some.inj e)
  have core : ∀ H : Hp, (∀ b, b ∈ (ts.map fun t => (t.1, t.2.1)).map (·.2) → H b = some (.tbl #[])) → (∀ b, H b = none ∨ b ∈ (ts.map fun t => (t.1, t.2.1)).map (·.2) ∨ ∃ o xs, H b = some (.frz o (.lst xs))) → HOk l.prog w H s1.heap →
      (∀ b, H b ≠ none → b = a ∨ b ∈ (ts.map fun t => (t.1, t.2.1)).map (·.2)) → (H a ≠ none → (K w.params).lookup a = none) → SqL (K w.params) H a (ns.map V.int) → (∀ xs, H a ≠ some (.lst xs)) →
      codeAny (model l.prog w) callerA (.call (.ref fa) ⟨[.ref a], []⟩) (fun r s' => r = .ok (.ret (.bool true)) ∧ OldK s1.heap s'.heap ∧ s'.os = s1.os ∧ AllBare s'.gens) s1 := by
    intro H hT only hok at_a offK hS hl
    refine lawT_atS (cs := ts.map fun t => (t.1, t.2.1)) (sp := fun base => liftP ⟨l.prog, w, K w.params, ts.map fun t => (t.2.1, t.2.2), base⟩ sp) KX G.T.g G.T.b G.T.builtins G.T.nolimit hg (fun p hp => ?_) (fun p hp => ?_) (fun p hp => ?_) G.T.bmain hobj hr ((G.T.seer hi).mods.elim fun mm h => ⟨mm, h.1⟩) (fun base b1 b2 b4 b3 => hF base b1 b2 b4 fun t ht => b3 (t.1, t.2.1) (List.mem_map.mpr ⟨t, ht, rfl⟩)) hb (fun p hp => hT _ (List.mem_map.mpr ⟨p, hp, rfl⟩)) only hok at_a offK ?_
    · obtain ⟨t, ht, rfl⟩ := List.mem_map.mp hp; exact (tabs t ht).1
    · obtain ⟨t, ht, rfl⟩ := List.mem_map.mp hp; exact (tabs t ht).2.1
    · obtain ⟨t, ht, rfl⟩ := List.mem_map.mp hp; exact (tabs t ht).2.2
    · refine ⟨lockd H, [.scr ns], law_start (fun t ht => ?_) (fun b => ?_) hS hl, fun d _ => d = .bool true, hsp ns hlen _ rfl, fun d ss' v C' H' e _ _ dv => ?_⟩
      · exact hT _ (inT.mpr ⟨t.2, ht⟩)
      · rcases only b with z | z | z
        · exact .inl z
        · exact .inr (.inl (inT.mp z))
        · exact .inr (.inr z)
      · subst e; cases dv; rfl
  cases hk : (K w.params).lookup a with
  | some ob =>
    have e := KX a ob hk
    rw [hobj] at e
    cases e
    refine core (fun b => if b ∈ (ts.map fun t => (t.1, t.2.1)).map (·.2) then some (.tbl #[]) else none) (fun b m => if_pos m) (fun b => ?_) (fun b u z => ?_) (fun b z => ?_) (fun z => absurd (if_neg aT) z) (.inr ⟨_, vs.toArray, _, hk, rfl, rfl, rfl, by rw [List.size_toArray, hints.length]; exact sz, by simpa using rv⟩) (fun xs z => ?_)
    · by_cases m : b ∈ (ts.map fun t => (t.1, t.2.1)).map (·.2)
      · exact .inr (.inl m)
      · exact .inl (if_neg m)
    · by_cases m : b ∈ (ts.map fun t => (t.1, t.2.1)).map (·.2)
      · cases (if_pos m).symm.trans z; exact isT b m
      · cases (if_neg m).symm.trans z
    · by_cases m : b ∈ (ts.map fun t => (t.1, t.2.1)).map (·.2)
      · exact .inr m
      · exact absurd (if_neg m) z
    · cases (if_neg aT).symm.trans z
  | none =>
    refine core (fun b => if b = a then some (.frz { cls := .type "list", data := .seq vs.toArray } (.lst (ns.map V.int))) else if b ∈ (ts.map fun t => (t.1, t.2.1)).map (·.2) then some (.tbl #[]) else none)
      (fun b m => (if_neg (fun z : b = a => aT (z ▸ m))).trans (if_pos m)) (fun b => ?_) (fun b u z => ?_) (fun b z => ?_) (fun _ => hk) (.inl (.inr ⟨_, if_pos rfl⟩)) (fun xs z => ?_)
    · by_cases e : b = a
      · exact .inr (.inr ⟨_, _, if_pos e⟩)
      · by_cases m : b ∈ (ts.map fun t => (t.1, t.2.1)).map (·.2)
        · exact .inr (.inl m)
        · exact .inl ((if_neg e).trans (if_neg m))
    · by_cases e : b = a
      · cases (if_pos e).symm.trans z
        rw [e]
        exact ⟨hobj, by rw [List.length_map]; exact sz, vs, _, rv, hobj⟩
      · have z1 := (if_neg e).symm.trans z
        by_cases m : b ∈ (ts.map fun t => (t.1, t.2.1)).map (·.2)
        · cases (if_pos m).symm.trans z1; exact isT b m
        · cases (if_neg m).symm.trans z1
    · by_cases e : b = a
      · exact .inl e
      · by_cases m : b ∈ (ts.map fun t => (t.1, t.2.1)).map (·.2)
        · exact .inr m
        · exact absurd ((if_neg e).trans (if_neg m)) z
    · cases (if_pos rfl).symm.trans z
end L2.Pu

set_option Elab.async false
set_option linter.all false
set_option maxRecDepth 100000
set_option maxHeartbeats 4000000
/-! ## Things of any kind -/
namespace L2.Pu
open PySem PySem.Spec PyProof.Rows
/-- a thing that can be shown: n signs and things at most, nested k deep at most -/
structure Th (d : PyData) (n k : Nat) : Prop where
  can : d.showable = true
  lvs : d.leavesShort 40 = true
  noT : noTK d = true
  few : d.bulk ≤ n
  flat : d.depth ≤ k
theorem Th.more {d : PyData} {n k n' k' : Nat} (h : Th d n k) (a : n ≤ n') (b : k ≤ k') : Th d n' k' := ⟨h.can, h.lvs, h.noT, Nat.le_trans h.few a, Nat.le_trans h.flat b⟩
theorem Th.fit {d : PyData} {n k : Nat} (h : Th d n k) (a : n ≤ 300000) (b : k ≤ 60) : FitA d := by
  have := PyData.shown_le_bulk 40 (by decide) d h.lvs
  have := h.few
  exact ⟨h.can, by omega, Nat.le_trans h.flat b, h.noT⟩
structure ThAll (ds : List PyData) (n k : Nat) : Prop where
  can : PyData.showableAll ds = true
  lvs : PyData.leavesShortAll 40 ds = true
  noT : noTKs ds = true
  few : PyData.bulkAll ds ≤ n
  flat : PyData.depthAll ds ≤ k
theorem ThAll.more {d : List PyData} {n k n' k' : Nat} (h : ThAll d n k) (a : n ≤ n') (b : k ≤ k') : ThAll d n' k' := ⟨h.can, h.lvs, h.noT, Nat.le_trans h.few a, Nat.le_trans h.flat b⟩
theorem ThAll.nil {n k : Nat} : ThAll [] n k := ⟨by simp only [PyData.showableAll], by simp only [PyData.leavesShortAll], by simp only [noTKs], by simp only [PyData.bulkAll]; omega, by simp only [PyData.depthAll]; omega⟩
theorem thAll_cons {d : PyData} {ds : List PyData} {n k : Nat} : ThAll (d :: ds) n k ↔ ∃ m, Th d m k ∧ ThAll ds (n - m - 1) k ∧ m + 1 ≤ n := by
  constructor
  · intro h
    obtain ⟨h1, h2, h3, h4, h5⟩ := h
    simp only [PyData.showableAll, PyData.leavesShortAll, noTKs, PyData.bulkAll, PyData.depthAll, Bool.and_eq_true, Nat.max_le] at h1 h2 h3 h4 h5
    exact ⟨d.bulk, ⟨h1.1, h2.1, h3.1, Nat.le_refl _, h5.1⟩, ⟨h1.2, h2.2, h3.2, by omega, h5.2⟩, by omega⟩
  · rintro ⟨m, a, b, c⟩
    have := a.few
    have := b.few
    refine ⟨?_, ?_, ?_, ?_, ?_⟩
    · simp only [PyData.showableAll, a.can, b.can, Bool.and_self]
    · simp only [PyData.leavesShortAll, a.lvs, b.lvs, Bool.and_self]
    · simp only [noTKs, a.noT, b.noT, Bool.and_self]
    · simp only [PyData.bulkAll]; omega
    · simp only [PyData.depthAll]; exact Nat.max_le.mpr ⟨a.flat, b.flat⟩
theorem ThAll.app {a b : List PyData} {n m k : Nat} (h : ThAll a n k) (g : ThAll b m k) : ThAll (a ++ b) (n + m) k := by
  induction a generalizing n with
  | nil => exact g.more (by omega) (Nat.le_refl _)
  | cons d a ih =>
    obtain ⟨i, h1, h2, h3⟩ := thAll_cons.mp h
    exact thAll_cons.mpr ⟨i, h1, (ih h2).more (by omega) (Nat.le_refl _), by omega⟩
theorem ThAll.mem {ds : List PyData} {n k : Nat} (h : ThAll ds n k) {d : PyData} (hd : d ∈ ds) : Th d n k := by
  induction ds generalizing n with
  | nil => cases hd
  | cons e ds ih =>
    obtain ⟨i, h1, h2, h3⟩ := thAll_cons.mp h
    rcases List.mem_cons.mp hd with rfl | hd
    · exact h1.more (by omega) (Nat.le_refl _)
    · exact (ih h2 hd).more (by omega) (Nat.le_refl _)
theorem ThAll.sub {a b : List PyData} {n k : Nat} (s : a.Sublist b) (h : ThAll b n k) : ThAll a n k := by
  induction s generalizing n with
  | slnil => exact h
  | cons x _ ih =>
    obtain ⟨i, h1, h2, h3⟩ := thAll_cons.mp h
    exact (ih h2).more (by omega) (Nat.le_refl _)
  | cons_cons x _ ih =>
    obtain ⟨i, h1, h2, h3⟩ := thAll_cons.mp h
    exact thAll_cons.mpr ⟨i, h1, ih h2, h3⟩
theorem ThAll.rev {a : List PyData} {n k : Nat} (h : ThAll a n k) : ThAll a.reverse n k := by
  induction a generalizing n with
  | nil => exact h
  | cons d a ih =>
    obtain ⟨i, h1, h2, h3⟩ := thAll_cons.mp h
    rw [List.reverse_cons]
    exact ((ih h2).app (thAll_cons.mpr ⟨i, h1, ThAll.nil, Nat.le_refl (i + 1)⟩)).more (by omega) (Nat.le_refl _)
theorem ThAll.len {a : List PyData} {n k : Nat} (h : ThAll a n k) : a.length ≤ n := by
  induction a generalizing n with
  | nil => exact Nat.zero_le _
  | cons d a ih =>
    obtain ⟨i, h1, h2, h3⟩ := thAll_cons.mp h
    have := ih h2
    rw [List.length_cons]; omega
theorem Th.one {d : PyData} {n k : Nat} (h : Th d n k) : ThAll [d] (n + 1) k := thAll_cons.mpr ⟨n, h, ThAll.nil, by omega⟩
theorem th_tup {ds : List PyData} {n k : Nat} (h : ThAll ds n k) : Th (.tuple ds) n (k + 1) := ⟨by simpa only [PyData.showable] using h.can, by simpa only [PyData.leavesShort] using h.lvs, by simpa only [noTK] using h.noT, by simpa only [PyData.bulk] using h.few, by simp only [PyData.depth]; exact Nat.succ_le_succ h.flat⟩
theorem th_lst {ds : List PyData} {n k : Nat} (h : ThAll ds n k) : Th (.list ds) n (k + 1) := ⟨by simpa only [PyData.showable] using h.can, by simpa only [PyData.leavesShort] using h.lvs, by simpa only [noTK] using h.noT, by simpa only [PyData.bulk] using h.few, by simp only [PyData.depth]; exact Nat.succ_le_succ h.flat⟩
theorem th_tup_inv {ds : List PyData} {n k : Nat} (h : Th (.tuple ds) n k) : ∃ k', k = k' + 1 ∧ ThAll ds n k' := by
  have h5 := h.flat
  simp only [PyData.depth] at h5
  obtain ⟨k', rfl⟩ : ∃ z, k = z + 1 := ⟨k - 1, by omega⟩
  exact ⟨k', rfl, by simpa only [PyData.showable] using h.can, by simpa only [PyData.leavesShort] using h.lvs, by simpa only [noTK] using h.noT, by simpa only [PyData.bulk] using h.few, by omega⟩
theorem th_dict1 {x : Str} {d : PyData} {n k : Nat} (hx : (x.cps.toList.all fun c => decide (c < 16 ^ 8)) = true) (h : Th d n k) : Th (.dict [(.str x, d)]) (n + x.cps.size + 2) (k + 1) :=
  ⟨by simp only [PyData.showable, PyData.showableKv, h.can, Bool.and_self], by simp only [PyData.leavesShort, PyData.leavesShortKv, hx, h.lvs, Bool.and_self], by simp only [noTK, noTKe, h.noT, Bool.and_self], by
    have := h.few
    simp only [PyData.bulk, PyData.bulkKv]; omega, by
    have := h.flat
    simp only [PyData.depth, PyData.depthKv]; omega⟩
theorem Th.seen {d : PyData} {n k : Nat} (h : Th d n k) (hn : n ≤ 16000000) : Seen1 d := by
  refine ⟨fun x y r e => ?_, fun x e => ?_⟩
  · have := h.noT
    rw [e] at this
    simp only [noTK, noTKe] at this
    cases this
  · have := h.few
    rw [e] at this
    simp only [PyData.bulk] at this
    show x.cps.size ≤ _
    omega
end L2.Pu

set_option Elab.async false
set_option linter.all false
set_option maxRecDepth 100000
set_option maxHeartbeats 4000000
/-! ## More rules: texts cut, tuples some times over, things that are data or own -/
namespace L2.Pu
open PySem PySem.Spec PyProof.Rows
section
variable {X : Cx} {τ : Tb} {a b e : Expr} {qa qb : QE} {pos : Pos}
/-! ### a tuple, some times over -/
end
end L2.Pu
namespace L2.Pu
open PySem PySem.Spec PyProof.Rows
section
variable {X : Cx} {τ : Tb} {e : Expr} {pos : Pos} {i : Nat}
end
end L2.Pu

set_option Elab.async false
set_option linter.all false
set_option maxRecDepth 100000
set_option maxHeartbeats 4000000
/-! ## try .. except C as n, what is caught stays tracked -/
namespace L2.Pu
open PySem PySem.Spec PyProof.Rows
section
variable {X : Cx} {x n : Str} {c : Value} {i : Nat} {body suite : List Stmt} {b₀ : Stmt} {np pos pos' : Pos} {tb : WX → TS} {ts : Addr → TS}
end
end L2.Pu

set_option Elab.async false
set_option linter.all false
set_option maxRecDepth 100000
set_option maxHeartbeats 4000000
/-! ## Ways that raise -/
namespace L2.Pu
open PySem PySem.Spec PyProof.Rows
/-- a way that raises: the class, the value, the state then -/
abbrev QR := Ro → (Addr → PyData → Ro → Prop) → Prop
/-- what is raised is taken -/
def XW (T : PK) (F : Fm) (C : Hp) (W : WX) (σ? : Option St) (ε : Addr → PyData → Ro → Prop) : Prop :=
  ∀ (c : Addr) (d : PyData) (ρ' : Ro) (v : V) (C' : Hp) (σ' : St) (H' : Hp) (dx : Addr), (∀ σ, σ? = some σ → σ' = σ) → ε c d ρ' → Same C C' → Rep T F ρ' C' σ' H' → Da T.w C' v d → H' dx = none → W (.ref c) (some dx) σ' (upd H' dx (.xd [("value", v)]))
theorem XW.on {T : PK} {F : Fm} {C C1 : Hp} {W : WX} {σ? : Option St} {ε : Addr → PyData → Ro → Prop} (h : XW T F C W σ? ε) (s : Same C C1) : XW T F C1 W σ? ε := fun c d ρ' v C' σ' H' dx a b s' => h c d ρ' v C' σ' H' dx a b (same_trans s s')
theorem XW.at {T : PK} {F : Fm} {C : Hp} {W : WX} {σ : St} {ε : Addr → PyData → Ro → Prop} (h : XW T F C W none ε) : XW T F C W (some σ) ε := fun c d ρ' v C' σ' H' dx _ => h c d ρ' v C' σ' H' dx (fun _ z => nomatch z)
def liftER (T : PK) (W : WX) (r : QR) : TE := fun σ H _ => ∃ F ρ C, Rep T F ρ C σ H ∧ ∃ ε, r ρ ε ∧ XW T F C W (some σ) ε
abbrev PQR (τ : Tb) (X : Cx) (W : WX) (e : Expr) (r : QR) : Prop := PE X e (liftER (X.pk τ) W r)
section
variable {X : Cx} {τ : Tb} {W : WX} {st : Stmt} {rest : List Stmt} {e : Expr} {es : List Expr} {q : QE} {r r' : QR} {pos p : Pos}
end
/-! ### defs that raise -/
/-- what a def promises of a way that raises -/
abbrev PSx := List Slot → (Addr → PyData → List Slot → Prop) → Prop
def liftPX (T : PK) (sp : PSx) : Sp := fun vs H _ E => ∃ C ss, Stand T C H ss vs ∧ ∃ ε, sp ss ε ∧ ∀ (c : Addr) (d : PyData) (ss' : List Slot) (v : V) (C' H' : Hp) (dx : Addr), ε c d ss' → Same C C' → Rep T ⟨C, H, refsAt 0 ss vs⟩ ss' C' (vs.map some) H' → Da T.w C' v d → H' dx = none → E (.ref c) (some dx) (upd H' dx (.xd [("value", v)]))
structure PFnX (τ : Tb) (P : Program) (w : World) (K : PySem.W.Frag) (mg : Str → Option Value) (base : Heap) (k : Nat) (x : Str) (ps : List Str) (sp : PSx) : Prop where
  ex : ∃ f fd, Fu.FnG P w K mg base (L2.CX P w) k f fd ps (liftPX ⟨P, w, K, τ, base⟩ sp) ∧ mg x = some (.ref f) ∧ PySem.W.keepIn K (.ref f) = true ∧ Binds K fd ps []
section
variable {X : Cx} {τ : Tb} {W : WX} {pos p : Pos} {e : Expr} {es : List Expr} {r : QR}
end
section
variable {τ : Tb} {P : Program} {w : World} {K : PySem.W.Frag} {mg : Str → Option Value} {base : Heap}
end
end L2.Pu

set_option Elab.async false
set_option linter.all false
set_option maxRecDepth 100000
set_option maxHeartbeats 4000000
/-! ## Exception classes with a value -/
namespace L2.Fu
open PySem PySem.Spec PyProof.Rows
open PySem.W (Frag findIn subIn typeIn keepIn hasDictIn specialIn takesIn mroIn kitOne excIn)
/-! ## __init__ -/
def spI (C : Addr) : Sp := fun vs H Q _ => ∃ (a : Addr) (v : V), vs = [.ref a, v] ∧ H a = some (exo a C none) ∧ ∀ dx, H dx = none → dx ≠ a → Q .non (upd (upd H dx (exd dx [("value", v)])) a (exo a C (some dx)))
end L2.Fu

set_option Elab.async false
set_option linter.all false
set_option maxRecDepth 100000
set_option maxHeartbeats 4000000
/-! ## Exceptions raised, caught, looked at -/
namespace L2.Pu
open PySem PySem.Spec PyProof.Rows
/-- what is known of an exception class -/
structure ExF (K : PySem.W.Frag) (c : Addr) : Prop where
  exc : ExcC K c
  xf : XfC K c
  oex : OexC K c
  val : PySem.W.findIn K (.ref c) "value" = some none
/-- .. and of the name that finds it, and of its __init__ -/
structure ExI (P : Program) (w : World) (K : PySem.W.Frag) (mg : Str → Option Value) (base : Heap) (x : Str) (c : Addr) : Prop where
  f : ExF K c
  g : mg x = some (.ref c)
  ini : ∃ fI fd, PySem.W.findIn K (.ref c) "__init__" = some (some (.ref fI)) ∧ PySem.W.typeIn K (.ref fI) = some (.type "function") ∧ FnOk P w K mg base CX0 1 fI fd ["self", "value"] (Fu.spI c) ∧ Binds K fd ["self", "value"] []
section
variable {X : Cx} {τ : Tb} {W : WX} {e : Expr} {q : QE} {pos pos' p : Pos} {i : Nat}
/-! ### try -/
/-! ### looks at an exception -/
end
end L2.Pu

set_option Elab.async false
set_option linter.all false
set_option maxRecDepth 100000
set_option maxHeartbeats 4000000
/-! ## A lambda without parameters, handed to a def that calls it -/
namespace L2.Pu
open PySem PySem.Spec PyProof.Rows
def slOf : Option PyData → Slot
  | some d => .val d
  | none => .un
section
variable {T : PK} {F : Fm} {ρ : Ro} {C : Hp} {σ : St} {H : Hp}
/-- what stands, without the names -/
theorem Rep.bare (R : Rep T F ρ C σ H) : Rep T F [] C [] H := ⟨R.c0, R.sub, R.keep, R.tbl, R.htb, R.ctab, R.tabs, R.new, R.refd, R.sys, rfl, fun i s h => by simp at h, fun i j p r r' o o' _ h => by simp at h⟩
/-- behind something that changed nothing that was there -/
theorem Rep.behind {C' H' : Hp} (R : Rep T F ρ C σ H) (Rc : Rep T ⟨C, H, []⟩ [] C' [] H') : Rep T F ρ C' σ H' := by
  have := R.after (as := []) (ss := []) (ss' := []) (vs := []) .nil Rc
  exact this
end
section
variable {X : Cx} {τ : Tb} {pins : List (Addr × Obj)} {σ : St} {H : Hp} {s : Shared}
end
/-! ### in pure states -/
/-- the lambda at slot i is called: what it answers -/
def qAct (i : Nat) (f c : Addr) (q : Str) (σc : St) (Φ : Ro → (PyData → Prop) → Prop) : QE := fun ρ κ => match ρ[i]? with
  | some (.fnc f' c' q' σ' vs) => f' = f ∧ c' = c ∧ q' = q ∧ σ' = σc ∧ ∃ K : PyData → Prop, Φ (vs.map slOf) K ∧ ∀ d, K d → κ d ρ
  | _ => False
/-- .. what it raises -/
def rAct (i : Nat) (f c : Addr) (q : Str) (σc : St) (Ψ : Ro → (Addr → PyData → Prop) → Prop) : QR := fun ρ ε => match ρ[i]? with
  | some (.fnc f' c' q' σ' vs) => f' = f ∧ c' = c ∧ q' = q ∧ σ' = σc ∧ ∃ E : Addr → PyData → Prop, Ψ (vs.map slOf) E ∧ ∀ e d, E e d → ε e d ρ
  | _ => False
/-- a lambda's two ways, as the def that calls it knows them: in its context Z, the name a, slot i -/
structure ActOk (τ : Tb) (Z : Cx) (a : Str) (i : Nat) (f c : Addr) (q : Str) (σc : St) (Φ : Ro → (PyData → Prop) → Prop) (Ψ : Ro → (Addr → PyData → Prop) → Prop) : Prop where
  nor : ∀ {pn : List (Addr × Obj)} {xe : Value → Shared → Prop} {p1 p2 : Pos}, PQ τ (Z.tr pn xe) (.Call (.Name a p1) [] [] p2) (qAct i f c q σc Φ)
  exc : ∀ {W : WX} {pn : List (Addr × Obj)} {xe : Value → Shared → Prop} {p1 p2 : Pos}, Takes (Z.tr pn xe) W → PQR τ (Z.tr pn xe) W (.Call (.Name a p1) [] [] p2) (rAct i f c q σc Ψ)
section
variable {X : Cx} {τ : Tb} {pins : List (Addr × Obj)} {σ : St} {H : Hp} {s : Shared}
end
end L2.Pu

set_option Elab.async false
set_option linter.all false
set_option maxRecDepth 100000
set_option maxHeartbeats 4000000
/-! ## The def that calls what it got, and its calls -/
namespace L2.Pu
open PySem PySem.Spec PyProof.Rows
/-- what such a def makes of the lambda's two ways -/
abbrev SpL := ((PyData → Prop) → Prop) → ((Addr → PyData → Prop) → Prop) → (PyData → Prop) → Prop
structure PFnL (τ : Tb) (P : Program) (w : World) (K : PySem.W.Frag) (mg : Str → Option Value) (base : Heap) (x : Str) (sp : SpL) : Prop where
  ex : ∃ (g : Addr) (fd : FuncData) (st : Stmt) (N : List Str) (a : Str), Fun K x x st g fd ∧ mg x = some (.ref g) ∧ PySem.W.keepIn K (.ref g) = true ∧ Binds K fd [a] [] ∧ FnScope N [a] (defScope st) ∧ N[0]? = some a ∧ Vis (defScope st) a ∧ (a == ("__debug__" : Str)) = false ∧ (a == ("__classdict__" : Str)) = false ∧
    ∀ (cdv : Value) (A : Around) (outer : List Env) (s : Shared) (H : Hp) (f c : Addr) (q : Str) (σc : St) (Φ : Ro → (PyData → Prop) → Prop) (Ψ : Ro → (Addr → PyData → Prop) → Prop),
      ActOk τ (cxOf CX0 P w K mg base N x (defScope st) g cdv A outer s H E0) a 0 f c q σc Φ Ψ →
      ∃ qb, PQSs τ (cxOf CX0 P w K mg base N x (defScope st) g cdv A outer s H E0).nox (defBody st) qb ∧ ∀ (vs : List (Option PyData)) (κ : PyData → Prop), sp (Φ (vs.map slOf)) (Ψ (vs.map slOf)) κ →
        qb { nx := fun _ => κ .none, rt := fun d _ => κ d } (.fnc f c q σc vs :: List.replicate (N.length - 1) .un)
/-- data stand where all but one object of code stands -/
theorem Da.off {w : World} {C C' : Hp} (s : ∀ b o, C b = some o → (∀ c q, o ≠ LamX.CodeO c q) → C' b = some o) {v : V} {d : PyData} (h : Da w C v d) : Da w C' v d := by
  have fz : ∀ {o : Obj} {u : HO} (c : Addr) (q : Str), HO.frz o u ≠ LamX.CodeO c q := fun c q z => by unfold LamX.CodeO at z; cases z
  have ls : ∀ {xs : List V} (c : Addr) (q : Str), HO.lst xs ≠ LamX.CodeO c q := fun c q z => by unfold LamX.CodeO at z; cases z
  exact Da.rec (motive_1 := fun v d _ => Da w C' v d) (motive_2 := fun vs ds _ => DaAll w C' vs ds) .non .bl .int .str (fun e n _ q => .lst (s _ _ e ls) n q) (fun e n _ q => .tup (s _ _ e fz) n q) (fun e k _ q => .dic (s _ _ e fz) k q) (fun e t ks k ne _ q => .dicT (s _ _ e fz) t (fun z hz => let ⟨ob, h1, h2⟩ := ks z hz; ⟨ob, s _ _ h1 fz, h2⟩) k ne q) .nil (fun _ _ a b => .cons a b) h
section
variable {X : Cx} {τ : Tb}
end
end L2.Pu

set_option Elab.async false
set_option linter.all false
set_option maxRecDepth 100000
set_option maxHeartbeats 4000000
/-! ## enumerate, the pairs' objects known -/
namespace L2.Pu
open PySem PySem.Spec PyProof.Rows
section
variable {X : Cx} {τ : Tb} {pos tpos p : Pos} {e : Expr} {elts : List Expr} {kk : Nat}
end
end L2.Pu

set_option Elab.async false
set_option linter.all false
set_option maxRecDepth 100000
set_option maxHeartbeats 4000000
/-! ## sorted of a list of data -/
namespace L2.Pu
open PySem PySem.Spec PyProof.Rows
/-- data that can be sorted -/
structure SortOk (ds : List PyData) : Prop where
  alike : PySem.W.AllAlike ds
  kind : PySem.W.Sortable ds ∨ ds.length ≤ 1 ∧ ∀ d ∈ ds, d ≠ .none
  flat : ∀ d ∈ ds, d.hasDict = false ∧ d.depth ≤ 40
section
variable {X : Cx} {τ : Tb} {pos p : Pos} {e : Expr} {es : List Expr}
end
end L2.Pu

set_option Elab.async false
set_option linter.all false
set_option maxRecDepth 100000
set_option maxHeartbeats 4000000
/-! ## sorted(d.items()), d a dict with text keys whose values are whole numbers -/
namespace L2.Pu
open PySem PySem.Spec PyProof.Rows
open L2.DX (itemsO itemsO_ok)
section
variable {X : Cx} {τ : Tb} {o e : Expr} {to : TE} {apos cpos pos p : Pos}
end
end L2.Pu

set_option Elab.async false
set_option linter.all false
set_option maxRecDepth 100000
set_option maxHeartbeats 4000000
/-! ## sorted(set(xs)), xs a list of whole numbers -/
namespace L2.Pu
open PySem PySem.Spec PyProof.Rows
open L2.Fu (mkI)
section
variable {P : Program} {w : World} {A : Around} {E : Value → Shared → Prop} {s : Shared}
end
section
variable {X : Cx} {τ : Tb} {pos p pos2 p2 : Pos} {e : Expr} {q : QE}
end
end L2.Pu

set_option Elab.async false
set_option linter.all false
set_option maxRecDepth 100000
set_option maxHeartbeats 4000000
/-! ## len of a dict with tuple keys; x in a dict with text keys -/
namespace L2.Pu
open PySem PySem.Spec PyProof.Rows
section
variable {X : Cx} {τ : Tb} {pos p : Pos} {a b e : Expr} {qa qb : QE} {es : List Expr}
/-! ### len -/
end
end L2.Pu

set_option Elab.async false
set_option linter.all false
set_option maxRecDepth 100000
set_option maxHeartbeats 4000000
/-! ## list of a dict with tuple keys -/
namespace L2.Pu
open PySem PySem.Spec PyProof.Rows
section
variable {X : Cx} {τ : Tb} {pos p : Pos} {e : Expr} {es : List Expr}
end
end L2.Pu

set_option Elab.async false
set_option linter.all false
set_option maxRecDepth 100000
set_option maxHeartbeats 4000000
/-! ## zip of two lists, of two tuples, the pairs' objects known -/
namespace L2.Pu
open PySem PySem.Spec PyProof.Rows RZ
section
variable {P : Program} {w : World} {K : PySem.W.Frag} {elts : List Expr} {kk : Nat} {tpos : Pos} {a b z TI TO i1 i2 : Addr}
end
section
variable {X : Cx} {τ : Tb} {pos tpos p : Pos} {e f : Expr} {elts : List Expr} {kk : Nat}
end
end L2.Pu

set_option Elab.async false
set_option linter.all false
set_option maxRecDepth 100000
set_option maxHeartbeats 4000000
/-! ## a < b of alike tuples; a test that is a list or a tuple -/
namespace L2.Pu
open PySem PySem.Spec PyProof.Rows
section
variable {X : Cx} {τ : Tb} {pos : Pos} {a b : Expr} {qa qb : QE}
structure LtOk (x y : List PyData) : Prop where
  alike : PySem.W.alike (.tuple x) (.tuple y) = true
  d1 : PyData.hasDict (.tuple x) = false
  d2 : PyData.hasDict (.tuple y) = false
  dep : PyData.depth (.tuple x) ≤ 40
end
/-! ### one way behind a test whose two ways meet again -/
section
variable {X : Cx} {τ : Tb} {st : Stmt} {rest : List Stmt} {t u : QS}
end
end L2.Pu

set_option Elab.async false
set_option linter.all false
set_option maxRecDepth 100000
set_option maxHeartbeats 4000000
/-! ## zip of a dict with tuple keys and a list -/
namespace L2.Pu
open PySem PySem.Spec PyProof.Rows RZ
section
variable {prog : Program} {w : World} {A : Around} {E : Value → Shared → Prop} {s : Shared}
theorem nextOf_key_item {it d : Addr} {i n ep : Nat} {od : Obj} {es : Array DictEntry} {en : DictEntry} {Q : Value → Shared → Prop} (hit : s.heap.IsKeyIter it d i n ep) (hod : s.heap.get? d = some od) (hdd : od.data = .dict es ep)
    (hsz : es.size = n) (hx : es[i]? = some en) (hQ : ∀ h', h'.IsKeyIter it d (i + 1) n ep → Heap.SameBut it s.heap h' → Q en.key { s with heap := h' }) : wpAny (model prog w) A (Builtin.SmallTypes.nextOf (.ref it)) Q E s := by
  obtain ⟨o, ho, hc, hd⟩ := id hit
  unfold Builtin.SmallTypes.nextOf
  refine wpAny_bind (wpAny_callSpecial?_slot (name := Str.ofString "__next__") hit.typeIs F.slot_dict_keyiterator_next
    (wpAny_call_entry F.slot_dict_keyiterator_next hit.typeIs F.entry_dict_keyiterator_next ?_ (F.args_dict_keyiterator_next_1 _)))
  refine wpAny_bind (wpAny_pure ?_)
  refine wpAny_bind ?_
  refine wpAny_bind ?_
  first | refine wpAny_bind (wpAny_typeNameOfWhole_keyiter hit.typeIs (wpAny_pure ?_)) | refine wpAny_bind (wpAny_typeNameOf_keyiter hit.typeIs (wpAny_pure ?_))
  refine wpAny_bind (wpAny_fieldsOf ho hd ?_)
  have hown : Builtin.Dict_items.ownsTuple "dict_keyiterator" = false := by decide
  simp only [hown, Bool.false_eq_true, if_false]
  show wpAny _ _ (if (Value.ref d == Value.none) = true then _ else _) _ _ s
  rw [if_neg (show ¬ ((Value.ref d == Value.none) = true) from Bool.false_ne_true)]
  refine wpAny_bind (wpAny_pure ?_)
  refine wpAny_bind (wpAny_dictEntries hod hdd ?_)
  rw [if_neg (by rw [hsz]; simp)]
  refine wpAny_bind (wpAny_pure ?_)
  refine wpAny_bind (wpAny_dictEpoch hod hdd ?_)
  rw [if_neg (by simp)]
  refine wpAny_pure ?_
  obtain ⟨hlt', hen⟩ := Array.getElem?_eq_some_iff.mp hx
  simp only [show ¬ ((i : Int) < 0) from by omega, if_false, Int.toNat_natCast, Array.getElem?_eq_getElem hlt']
  refine wpAny_bind ?_
  first | refine wpAny_bind (wpAny_typeNameOfWhole_keyiter hit.typeIs (wpAny_pure ?_)) | refine wpAny_bind (wpAny_typeNameOf_keyiter hit.typeIs (wpAny_pure ?_))
  refine wpAny_bind (wpAny_isOneOf_keyiter hit.typeIs ?_)
  show wpAny _ _ (setField (.ref it) 1 (rawInt ((i : Int) + 1)) >>= _) _ _ s
  refine wpAny_bind (wpAny_setField ho hd (by simp) ?_)
  have hit' : (s.heap.update it (Obj.mapFields (·.setIfInBounds 1 (rawInt ((i : Int) + 1))))).IsKeyIter it d (i + 1) n ep :=
    ⟨_, Heap.get?_update_self _ ho (Obj.isFreed_of_fields (Obj.data_mapFields hd _)), (Obj.cls_mapFields ..).trans hc, by rw [Obj.data_mapFields hd]; simp [rawInt]⟩
  refine wpAny_bind (wpAny_holding ?_)
  refine wpAny_bind (wpAny_isOneOf_keyiter (s := { s with heap := s.heap.update it (Obj.mapFields (·.setIfInBounds 1 (rawInt ((i : Int) + 1)))) }) hit'.typeIs ?_)
  show wpAny _ _ (pure es[i].key) _ _ _
  rw [hen]
  exact wpAny_pure (wpAny_pure ⟨_, rfl, wpAny_pure (hQ _ hit' (Heap.SameBut.update ..))⟩)
theorem nextOf_key_end {it d : Addr} {i n ep : Nat} {od : Obj} {es : Array DictEntry} {Q : Value → Shared → Prop} (hh : A.handled = none) (hit : s.heap.IsKeyIter it d i n ep) (hod : s.heap.get? d = some od) (hdd : od.data = .dict es ep)
    (hsz : es.size = n) (hge : n ≤ i) (hE : ∀ h' e, Heap.ExtBut it s.heap h' → (∃ o, h'.get? e = some o ∧ o.cls = .type "StopIteration") → E (.ref e) { s with heap := h' }) : wpAny (model prog w) A (Builtin.SmallTypes.nextOf (.ref it)) Q E s := by
  obtain ⟨o, ho, hc, hd⟩ := id hit
  unfold Builtin.SmallTypes.nextOf
  refine wpAny_bind (wpAny_callSpecial?_slot (name := Str.ofString "__next__") hit.typeIs F.slot_dict_keyiterator_next
    (wpAny_call_entry F.slot_dict_keyiterator_next hit.typeIs F.entry_dict_keyiterator_next ?_ (F.args_dict_keyiterator_next_1 _)))
  refine wpAny_bind (wpAny_pure ?_)
  refine wpAny_bind ?_
  refine wpAny_bind ?_
  first | refine wpAny_bind (wpAny_typeNameOfWhole_keyiter hit.typeIs (wpAny_pure ?_)) | refine wpAny_bind (wpAny_typeNameOf_keyiter hit.typeIs (wpAny_pure ?_))
  refine wpAny_bind (wpAny_fieldsOf ho hd ?_)
  have hown : Builtin.Dict_items.ownsTuple "dict_keyiterator" = false := by decide
  simp only [hown, Bool.false_eq_true, if_false]
  show wpAny _ _ (if (Value.ref d == Value.none) = true then _ else _) _ _ s
  rw [if_neg (show ¬ ((Value.ref d == Value.none) = true) from Bool.false_ne_true)]
  refine wpAny_bind (wpAny_pure ?_)
  refine wpAny_bind (wpAny_dictEntries hod hdd ?_)
  rw [if_neg (by rw [hsz]; simp)]
  refine wpAny_bind (wpAny_pure ?_)
  refine wpAny_bind (wpAny_dictEpoch hod hdd ?_)
  rw [if_neg (by simp)]
  refine wpAny_pure ?_
  have hge' : es.size ≤ i := by rw [hsz]; exact hge
  simp only [show ¬ ((i : Int) < 0) from by omega, if_false, Int.toNat_natCast, Array.getElem?_eq_none hge']
  refine wpAny_bind ?_
  first | refine wpAny_bind (wpAny_typeNameOfWhole_keyiter hit.typeIs (wpAny_pure ?_)) | refine wpAny_bind (wpAny_typeNameOf_keyiter hit.typeIs (wpAny_pure ?_))
  show wpAny _ _ (setField (.ref it) 0 .none >>= _) _ _ s
  refine wpAny_bind (wpAny_setField ho hd (by simp) ?_)
  show wpAny _ _ (newExc (.type "StopIteration") [] >>= _) _ _ _
  refine wpAny_bind ?_
  simp only [newExc, newTuple]
  refine wpAny_bind (wpAny_newObj_type ?_ (by size_fits))
  refine wpAny_bind (m := firstArgMember _ _) (wpAny_of_eq (a := Value.none) (by first | rfl | (simp only [firstArgMember]; rfl)) ?_)
  refine wpAny_newObj_type ?_ (by size_fits)
  simp only [raiseNew]
  refine wpAny_bind (wpAny_handled ?_)
  first | rw [show A.in1.handled = none from hh] | rw [hh]
  refine wpAny_bind (wpAny_pure (wpAny_throw ?_))
  exact hE _ _ (((Heap.SameBut.update ..).extBut.push _).push _) ⟨_, Heap.get?_push_size _ rfl, rfl⟩
theorem Draws.keys {prog : Program} {w : World} {A : Around} (hh : A.handled = none) (it d : Addr) (hne : d ≠ it) {od : Obj} {es : Array DictEntry} {ep : Nat} (hdd : od.data = .dict es ep) :
    Draws prog w A it [it, d] es.size (fun i v => ∃ en : DictEntry, es[i]? = some en ∧ v = en.key) (fun i h => h.IsKeyIter it d i es.size ep ∧ h.get? d = some od) where
  live := fun _ _ st => let ⟨o, ho, _⟩ := st.1; ⟨o, ho⟩
  frame := fun _ _ _ st hk => ⟨st.1.at fun o e => hk it (by simp) o e, hk d (by simp) _ st.2⟩
  item := fun i s Q E hi st hQ => by
    refine nextOf_key_item st.1 st.2 hdd rfl (en := es[i]) (by simp [hi]) fun h' hit' hs' => ?_
    exact hQ _ h' s.toks ⟨es[i], by simp [hi], rfl⟩ ⟨hit', (hs'.2 d hne).trans st.2⟩ hs'
  done := fun s Q E st hE => nextOf_key_end hh st.1 st.2 hdd rfl (Nat.le_refl _) hE
end
section
variable {prog : Program} {w : World} {A : Around} {E : Value → Shared → Prop} {s : Shared}
end
section
variable {P : Program} {w v : World} {K : PySem.W.Frag} {elts : List Expr} {kk : Nat} {tpos : Pos} {d b z TI TO i1 i2 : Addr} {o : Obj} {u : HO} {zs : List (List Str × Addr × V)} {es : Array DictEntry} {ep : Nat}
end
section
variable {X : Cx} {τ : Tb} {pos tpos p : Pos} {e f : Expr} {elts : List Expr} {kk : Nat}
end
end L2.Pu

set_option Elab.async false
set_option linter.all false
set_option maxRecDepth 100000
set_option maxHeartbeats 4000000
/-! ## Calls by keywords alone -/
namespace L2.Pu
open PySem PySem.Spec PyProof.Rows
def pick {α : Type} (pm : List Nat) (l : List α) : List α := pm.filterMap fun i => l[i]?
/-- how the def x binds what is given by the names ks alone -/
structure KwB (K : PySem.W.Frag) (mg : Str → Option Value) (x : Str) (ps ks : List Str) (pm : List Nat) : Prop where
  to : ∀ (f : Addr) (fd : FuncData), mg x = some (.ref f) → (∃ (oc : Value) (od : Option Addr) (osl : Array (Option Value)), K.lookup f = some ⟨oc, od, .func fd, osl⟩) → ∀ (s : Shared) (ws : List Value), ws.length = ks.length → BindsTo s fd ⟨[], ks.zip ws⟩ (ps.zip (pick pm ws))
section
variable {X : Cx} {τ : Tb} {pos kpos p : Pos} {e : Expr} {kws : List Keyword} {nm : Option Str}
end
end L2.Pu

set_option Elab.async false
set_option linter.all false
set_option maxRecDepth 100000
set_option maxHeartbeats 4000000
/-! ## sorted with keys that hold new lists -/
namespace L2.Pu
open PySem PySem.Spec PyProof.Rows PySem.W
section
variable {prog : Program} {w : World} {A : Around} {E : Value → Shared → Prop} {s : Shared} {a kS : Addr} {b : Bool} {vs : List Value} {e1 : Nat} {P : PySem.Fin → Shared → Prop} {kz : List PyData}
end
section
variable {prog : Program} {w : World} {A : Around} {E : Value → Shared → Prop} {s : Shared} {β : Type} {vs : List Value} {bs : List β} {R : Value → β → Prop}
end
end L2.Pu

set_option Elab.async false
set_option linter.all false
set_option maxRecDepth 100000
set_option maxHeartbeats 4000000
/-! ## [z[0] for z in y], raw -/
namespace L2.Pu
open PySem PySem.Spec PyProof.Rows PySem.W
section
variable {prog : Program} {w : World} {A : Around} {env : Env} {s : Shared}
end
end L2.Pu

set_option Elab.async false
set_option linter.all false
set_option maxRecDepth 100000
set_option maxHeartbeats 4000000
/-! ## sorted(groups, key=lambda y: (len(y), [z[0] for z in y])) -/
namespace L2.Pu
open PySem PySem.Spec PyProof.Rows
structure CompSc (z : Str) (sc : Scope) : Prop where
  kind : sc.kind = .function
  cells : ∀ v ∈ sc.names, v.2 ≠ .cell
  free : ∀ v ∈ sc.names, v.2 ≠ .free
  names : ∀ v ∈ sc.names, v.2 = .local → sc.names.lookup v.1 = some .local
  own : sc.names.lookup z = some .local
/-- a tuple that begins with a text -/
def Us1 (H : Hp) (it : Addr × Str) : Prop := ∃ (ob : Obj) (vs : List V), H it.1 = some (.frz ob (.tup (V.str it.2 :: vs)))
section
variable {X : Cx} {pins : List (Addr × Obj)} {σ : St} {H : Hp} {s : Shared}
end
end L2.Pu

set_option Elab.async false
set_option linter.all false
set_option maxRecDepth 100000
set_option maxHeartbeats 4000000
namespace L2.Pu
open PySem PySem.Spec PyProof.Rows
section
variable {X : Cx} {τ : Tb} {pos p kpos lpos : Pos} {e : Expr}
theorem Us1.mono {C H : Hp} (s : ∀ b o, C b = some o → H b = some o) {x : Addr × Str} (h : Us1 C x) : Us1 H x := by
  obtain ⟨ob, vs, e⟩ := h
  exact ⟨ob, vs, s _ _ e⟩
end
end L2.Pu

set_option Elab.async false
set_option linter.all false
set_option maxRecDepth 100000
set_option maxHeartbeats 4000000
/-! ## x.upper() -/
namespace L2.Pu
open PySem PySem.Spec PyProof.Rows
section
variable {X : Cx} {τ : Tb} {a : Expr} {qa : QE} {apos pos : Pos}
end
end L2.Pu
/-! ## A comprehension over an own list that stays one's own -/
namespace L2.Pu
open PySem PySem.Spec PyProof.Rows
section
variable {T : PK} {F : Fm} {ρ : Ro} {C : Hp} {σ : St} {H : Hp} {i : Nat} {p : Addr}
/-- p is kept as it is meanwhile, and is no argument any more -/
def Fm.hold (F : Fm) (p : Addr) (u : HO) : Fm := ⟨F.C0, upd F.H0 p u, F.refs.filter fun q => decide (q.2 ≠ p)⟩
theorem Rep.hold (R : Rep T F ρ C σ H) (f : Fresh F ρ C σ p) {u : HO} (h : H p = some u) (no : NoTb u := by intro _ z; cases z) : Rep T (F.hold p u) ρ C σ H := by
  refine ⟨R.c0, R.sub, fun b o k nk hr => ?_, fun b ps k => ?_, R.htb, R.ctab, R.tabs, fun b o k k0 => ?_, fun q hq => R.refd q (List.mem_filter.mp hq).1, R.sys, R.len, fun j s hj => ?_, R.apart⟩
  · by_cases e : b = p
    · subst e
      have k : upd F.H0 b u b = some o := k
      rw [upd_same] at k; cases k; exact h
    · have k : upd F.H0 p u b = some o := k
      rw [upd_ne e] at k
      exact R.keep b o k nk fun q hq e2 => hr q (List.mem_filter.mpr ⟨hq, decide_eq_true (by rw [e2]; exact e)⟩) e2
  · by_cases e : b = p
    · subst e
      have k : upd F.H0 b u b = some (.tbl ps) := k
      rw [upd_same] at k; cases k; exact absurd rfl (no ps)
    · have k : upd F.H0 p u b = some (.tbl ps) := k
      rw [upd_ne e] at k; exact R.tbl b ps k
  · show upd F.H0 p u b = none ∨ _
    rw [upd_ne (ne_of_none k f.core)]; exact R.new b o k k0
  · have hs := R.slot j s hj
    cases s with
    | un => trivial
    | val d => exact hs
    | scr ns => exact hs
    | exc c d => exact hs
    | fnc f c q σc vs => exact hs
    | own r o =>
      obtain ⟨q, a, b, c, d⟩ := hs
      have ne : q ≠ p := fun e => f.owned j r o hj (by rw [← e]; exact a)
      refine ⟨q, a, b, c, ?_⟩
      cases r with
      | true => exact List.mem_filter.mpr ⟨d, decide_eq_true ne⟩
      | false =>
        show upd F.H0 p u q = none
        rw [upd_ne ne]; exact d
end
section
variable {X : Cx} {τ : Tb} {pos : Pos}
end
end L2.Pu
/-! ## x is True, x is not True -/
namespace L2.Pu
open PySem PySem.Spec PyProof.Rows
section
variable {X : Cx} {τ : Tb} {a : Expr} {qa : QE} {pos : Pos}
end
end L2.Pu

set_option Elab.async false
set_option linter.all false
set_option maxRecDepth 100000
set_option maxHeartbeats 4000000
/-! ## f(new thing): a call with a new own thing as its one argument -/
namespace L2.Pu
open PySem PySem.Spec PyProof.Rows
section
variable {T : PK} {F : Fm} {ρ : Ro} {C : Hp} {σ : St} {H : Hp} {p : Addr}
theorem Rep.push (R : Rep T F ρ C σ H) {o : Own} (f : Fresh F ρ C σ p) (w : OwnAt T C H p o) : Rep T F (ρ ++ [.own false o]) C (σ ++ [some (.ref p)]) H := by
  have at' : ∀ (i : Nat) (s : Slot), (ρ ++ [Slot.own false o])[i]? = some s → (i < ρ.length ∧ ρ[i]? = some s ∧ (σ ++ [some (.ref p)])[i]? = σ[i]?) ∨ (s = .own false o ∧ i = ρ.length ∧ (σ ++ [some (.ref p)])[i]? = some (some (.ref p))) := fun i s h => by
    by_cases lt : i < ρ.length
    · rw [List.getElem?_append_left lt] at h
      exact .inl ⟨lt, h, List.getElem?_append_left (by rw [← R.len]; exact lt)⟩
    · rw [List.getElem?_append_right (by omega)] at h
      have : i - ρ.length = 0 := by
        cases e : i - ρ.length with
        | zero => rfl
        | succ n => rw [e] at h; cases h
      rw [this] at h
      cases h
      have e : i = ρ.length := by omega
      refine .inr ⟨rfl, e, ?_⟩
      rw [List.getElem?_append_right (by rw [← R.len]; omega), ← R.len, this]; rfl
  refine ⟨R.c0, R.sub, R.keep, R.tbl, R.htb, R.ctab, R.tabs, R.new, R.refd, R.sys, by rw [List.length_append, List.length_append, R.len]; rfl, fun i s hs => ?_, fun i j q r r' o1 o2 ij hi hj vi vj => ?_⟩
  · rcases at' i s hs with ⟨_, h, e⟩ | ⟨rfl, _, e⟩
    · rw [e]; exact R.slot i s h
    · exact ⟨p, e, f.core, w, f.start⟩
  · rcases at' i _ hi with ⟨_, h1, e1⟩ | ⟨h1, l1, e1⟩
    · rcases at' j _ hj with ⟨_, h2, e2⟩ | ⟨h2, l2, e2⟩
      · rw [e1] at vi; rw [e2] at vj
        exact R.apart i j q r r' o1 o2 ij h1 h2 vi vj
      · rw [e1] at vi; rw [e2] at vj
        cases vj
        exact f.owned i r o1 h1 vi
    · rcases at' j _ hj with ⟨_, h2, e2⟩ | ⟨h2, l2, e2⟩
      · rw [e1] at vi; rw [e2] at vj
        cases vi
        exact f.owned j r' o2 h2 vj
      · exact ij (by omega)
theorem Rep.pop {s : Slot} {x : Option V} (R : Rep T F (ρ ++ [s]) C (σ ++ [x]) H) (l : ρ.length = σ.length) : Rep T F ρ C σ H := by
  have at' : ∀ (i : Nat) (t : Slot), ρ[i]? = some t → (ρ ++ [s])[i]? = some t ∧ (σ ++ [x])[i]? = σ[i]? := fun i t h => by
    have lt := (List.getElem?_eq_some_iff.mp h).1
    exact ⟨by rw [List.getElem?_append_left lt]; exact h, List.getElem?_append_left (by rw [← l]; exact lt)⟩
  refine ⟨R.c0, R.sub, R.keep, R.tbl, R.htb, R.ctab, R.tabs, R.new, R.refd, R.sys, l, fun i t hs => ?_, fun i j q r r' o1 o2 ij hi hj vi vj => ?_⟩
  · obtain ⟨a, b⟩ := at' i t hs
    rw [← b]; exact R.slot i t a
  · obtain ⟨a, b⟩ := at' i _ hi
    obtain ⟨a', b'⟩ := at' j _ hj
    exact R.apart i j q r r' o1 o2 ij a a' (by rw [b]; exact vi) (by rw [b']; exact vj)
end
section
variable {X : Cx} {τ : Tb} {pos p : Pos} {e : Expr}
end
end L2.Pu

set_option Elab.async false
set_option linter.all false
set_option maxRecDepth 100000
set_option maxHeartbeats 4000000
/-! ## Instances of one's own classes -/
namespace L2.Pu
open PySem PySem.Spec PyProof.Rows
section
variable {X : Cx} {CX : CXT} {k : Nat} {f C : Addr} {fd : FuncData} {ps : List Str} {sp : Sp} {dvs : List V} {ds : List Value} {E : XK} {x m : Str} {p pos apos : Pos} {e o : Expr} {es : List Expr} {ta : TE} {t : TA}
end
/-- a class that is made, by its name -/
structure PCls (τ : Tb) (P : Program) (w : World) (K : PySem.W.Frag) (mg : Str → Option Value) (base : Heap) (k : Nat) (x : Str) (C : Addr) (ps : List Str) (sp : PSp) : Prop where
  ex : ∃ f fd, Mk K C f ∧ Fu.FnG P w K mg base CX0 k f fd ps (liftP ⟨P, w, K, τ, base⟩ sp) ∧ mg x = some (.ref C) ∧ Binds K fd ps []
structure PClsX (τ : Tb) (P : Program) (w : World) (K : PySem.W.Frag) (mg : Str → Option Value) (base : Heap) (k : Nat) (x : Str) (C : Addr) (ps : List Str) (sp : PSx) : Prop where
  ex : ∃ f fd, Mk K C f ∧ Fu.FnG P w K mg base (L2.CX P w) k f fd ps (liftPX ⟨P, w, K, τ, base⟩ sp) ∧ mg x = some (.ref C) ∧ Binds K fd ps []
/-- a method that keeps its promise -/
structure PMeth (τ : Tb) (P : Program) (w : World) (K : PySem.W.Frag) (mg : Str → Option Value) (base : Heap) (k : Nat) (C : Addr) (m : Str) (ps : List Str) (sp : PSp) : Prop where
  ex : ∃ f fd, Cls K C ∧ Meth K C m f ∧ Fu.FnG P w K mg base CX0 k f fd ps (liftP ⟨P, w, K, τ, base⟩ sp) ∧ Binds K fd ps []
section
variable {X : Cx} {τ : Tb} {W : WX} {pos p p1 p2 apos : Pos} {e : Expr} {i : Nat} {n x f m : Str} {C : Addr} {q : QE}
end
section
variable {τ : Tb} {P : Program} {w : World} {K : PySem.W.Frag} {mg : Str → Option Value} {base : Heap}
end
end L2.Pu

set_option Elab.async false
set_option linter.all false
set_option maxRecDepth 100000
set_option maxHeartbeats 4000000
/-! ## str(a whole number) -/
namespace L2.Pu
open PySem PySem.Spec PyProof.Rows
section
variable {X : Cx} {τ : Tb} {pos p : Pos} {e : Expr} {qa : QE}
end
end L2.Pu

set_option Elab.async false
set_option linter.all false
set_option maxRecDepth 100000
set_option maxHeartbeats 4000000
/-! ## Own dicts whose keys are tuples of texts -/
namespace L2.Pu
open PySem PySem.Spec PyProof.Rows
section
variable {X : Cx} {pins : List (Addr × Obj)} {σ : St} {H : Hp} {s : Shared}
end
section
variable {X : Cx} {τ : Tb} {pos p pos' : Pos} {a b e : Expr} {qa qb qv : QE} {i : Nat}
/-! ### reading -/
end
end L2.Pu

set_option Elab.async false
set_option linter.all false
set_option maxRecDepth 100000
set_option maxHeartbeats 4000000
/-! ## for a, b in d.items(), the keys tuples of texts -/
namespace L2.Pu
open PySem PySem.Spec PyProof.Rows
section
variable {P : Program} {w w' : World} {K : PySem.W.Frag} {elts : List Expr} {kk : Nat} {tpos : Pos} {d : Addr} {o : Obj} {u : HO} {zs : List (List Str × Addr × V)} {es : Array DictEntry} {ep : Nat}
end
section
variable {X : Cx} {τ : Tb} {tg e : Expr} {td : TE} {apos cpos : Pos} {elts : List Expr} {kk : Nat} {tpos : Pos}
end
end L2.Pu

set_option Elab.async false
set_option linter.all false
set_option maxRecDepth 100000
set_option maxHeartbeats 4000000
/-! ## min(found, key=lambda y: (len(y), y)), the items tuples -/
namespace L2.Pu
open PySem PySem.Spec PyProof.Rows
/-- the key of a tuple -/
def keyOfT (ds : List PyData) : PyData := .tuple [.int (ds.length : Nat), .tuple ds]
section
variable {X : Cx} {pins : List (Addr × Obj)} {σ : St} {H : Hp} {s : Shared}
/-- a tuple of a number and a tuple stands at q -/
def PairAt (h : Heap) (q a : Addr) (n : Nat) : Prop := ∃ o t, h.get? q = some o ∧ o.cls = .type "tuple" ∧ (∃ m, o.data = .seq #[.int n t, .ref a] m)
end
end L2.Pu
namespace L2.Pu
open PySem PySem.Spec PyProof.Rows
structure MinOk (xs : List (List PyData)) : Prop where
  alike : ∀ x ∈ xs, ∀ y ∈ xs, PySem.W.alikeAll x y = true
  flat : ∀ x ∈ xs, PyData.hasDictAll x = false ∧ PyData.depthAll x ≤ 40
theorem PairAt.reads {h : Heap} {q a : Addr} {ds : List PyData} {as : List Addr} (p : PairAt h q a ds.length) (r : Reads h (.ref a) (.tuple ds) as) : Reads h (.ref q) (keyOfT ds) ([] ++ (as ++ [])) := by
  obtain ⟨o, t, e, c, m, d⟩ := p
  exact .tuple e c d (.cons (.int _ _) (.cons r .nil))
section
variable {X : Cx} {τ : Tb} {pos p kpos lpos : Pos} {e : Expr}
end
end L2.Pu

set_option Elab.async false
set_option linter.all false
set_option maxRecDepth 100000
set_option maxHeartbeats 4000000
/-! ## {k: v}, {k: v for ..} as own dicts, the keys tuples of texts -/
namespace L2.Pu
open PySem PySem.Spec PyProof.Rows
section
variable {X : Cx} {τ : Tb} {pos : Pos} {kx vx : Expr} {qk qv : QE}
end
end L2.Pu
/-! ### a comprehension -/
namespace L2.Pu
open PySem PySem.Spec PyProof.Rows
section
variable {X : Cx} {τ : Tb} {pos : Pos}
end
end L2.Pu

set_option Elab.async false
set_option linter.all false
set_option maxRecDepth 100000
set_option maxHeartbeats 4000000
/-! ## {k: v for ..}, the keys tuples of texts and whole numbers -/
namespace L2.Pu
open PySem PySem.Spec PyProof.Rows
def tupK (r : List Key) : PyData := .tuple (r.map keyD)
section
variable {X : Cx} {pins : List (Addr × Obj)} {σ : St} {H : Hp} {s : Shared}
end
section
variable {X : Cx} {pins : List (Addr × Obj)} {σ : St} {H : Hp} {s : Shared}
end
section
variable {X : Cx}
end
section
end
section
variable {X : Cx} {τ : Tb} {pos : Pos}
end
end L2.Pu

set_option Elab.async false
set_option linter.all false
set_option maxRecDepth 100000
set_option maxHeartbeats 4000000
/-! ## sorted(d.items()), d an own dict whose keys are tuples of texts and whole numbers -/
namespace L2.Pu
open PySem PySem.Spec PyProof.Rows
open L2.DX (itemsO itemsO_ok)
def prK (e : List Key × PyData) : PyData := .tuple [tupK e.1, e.2]
section
variable {X : Cx} {τ : Tb} {o e : Expr} {to : TE} {apos cpos pos p : Pos}
structure PrOk (rds : List (List Key × PyData)) : Prop where
  alike : PySem.W.AllAlike (rds.map prK)
  flat : ∀ e ∈ rds, e.2.hasDict = false ∧ e.2.depth ≤ 30
end
end L2.Pu

set_option Elab.async false
set_option linter.all false
set_option maxRecDepth 100000
set_option maxHeartbeats 4000000
/-! ## nested targets -/
namespace L2.Pu
open PySem PySem.Spec PyProof.Rows
end L2.Pu

set_option Elab.async false
set_option linter.all false
set_option maxRecDepth 100000
set_option maxHeartbeats 4000000
/-! ## name = {k: v for ..} on one line -/
namespace L2.Fu
open PySem PySem.Spec PyProof.Rows
section
variable {X : Cx} {α : Type}
end
end L2.Fu

set_option Elab.async false
set_option linter.all false
set_option maxRecDepth 100000
set_option maxHeartbeats 4000000
namespace L2.Pu
open PySem PySem.Spec PyProof.Rows
section
variable {X : Cx} {τ : Tb} {pos : Pos}
end
end L2.Pu

set_option Elab.async false
set_option linter.all false
set_option maxRecDepth 100000
set_option maxHeartbeats 4000000
/-! ## Ghost names: lists that belong to things -/
namespace L2.Pu
open PySem PySem.Spec PyProof.Rows
theorem Rep.shape {T : PK} {C0 H0 : Hp} {r1 r2 : List (Nat × Addr)} {ρ ρ' : Ro} {C : Hp} {σ σ' : St} {H : Hp} (f : Nat → Nat) (R : Rep T ⟨C0, H0, r1⟩ ρ C σ H) (ab : ∀ x, (∃ q ∈ r1, q.2 = x) ↔ ∃ q ∈ r2, q.2 = x) (len : ρ'.length = σ'.length)
    (sl : ∀ i s, ρ'[i]? = some s → s = .un ∨ (ρ[f i]? = some s ∧ σ'[i]? = σ[f i]?)) (rf : ∀ i o p, ρ'[i]? = some (.own true o) → σ'[i]? = some (some (.ref p)) → (i, p) ∈ r2)
    (inj : ∀ i j r r' o o', i ≠ j → ρ'[i]? = some (.own r o) → ρ'[j]? = some (.own r' o') → f i ≠ f j) : Rep T ⟨C0, H0, r2⟩ ρ' C σ' H := by
  refine ⟨R.c0, R.sub, fun b o k n hr => R.keep b o k n fun q hq e => ?_, R.tbl, R.htb, R.ctab, R.tabs, R.new, fun q hq => ?_, R.sys, len, fun i s hs => ?_, fun i j p r r' o o' ij hi hj vi vj => ?_⟩
  · obtain ⟨q', hq', e'⟩ := (ab b).mp ⟨q, hq, e⟩
    exact hr q' hq' e'
  · obtain ⟨q', hq', e'⟩ := (ab q.2).mpr ⟨q, hq, rfl⟩
    rw [← e']; exact R.refd q' hq'
  · rcases sl i s hs with rfl | ⟨h1, h2⟩
    · trivial
    have h := R.slot (f i) s h1
    rw [← h2] at h
    cases s with
    | un => trivial
    | val d => exact h
    | scr ns => exact h
    | exc c d => exact h
    | fnc f' c q σc vs => exact h
    | own r o =>
      obtain ⟨p, a, b, c, d⟩ := h
      refine ⟨p, a, b, c, ?_⟩
      cases r with
      | false => exact d
      | true => exact rf i o p hs a
  · rcases sl i _ hi with e | ⟨a1, a2⟩
    · cases e
    rcases sl j _ hj with e | ⟨b1, b2⟩
    · cases e
    exact R.apart (f i) (f j) p r r' o o' (inj i j r r' o o' ij hi hj) a1 b1 (a2.symm.trans vi) (b2.symm.trans vj)
section
variable {T : PK} {C H C' H' : Hp} {ss : List Slot} {vs : List V} {g : Slot} {p : Addr} {n : Nat}
end
/-- a promise about the arguments and one ghost -/
def liftPG (T : PK) (sp : PSp) : Sp := fun vs H Q _ => ∃ C ss g p, Stand T C H (ss ++ [g]) (vs ++ [.ref p]) ∧ ss.length = vs.length ∧ ∃ κ, sp (ss ++ [g]) κ ∧ ∀ d ss' v C' H', κ d ss' → Same C C' → Rep T ⟨C, H, refsAt 0 (ss ++ [g]) (vs ++ [.ref p])⟩ ss' C' ((vs ++ [V.ref p]).map some) H' → Da T.w C' v d → Q v H'
section
variable {τ : Tb} {P : Program} {w : World} {K : PySem.W.Frag} {mg : Str → Option Value} {base : Heap}
end
/-- a method that keeps its promise about the instance, its arguments and its list -/
structure PMethG (τ : Tb) (P : Program) (w : World) (K : PySem.W.Frag) (mg : Str → Option Value) (base : Heap) (k : Nat) (C : Addr) (m : Str) (ps : List Str) (sp : PSp) : Prop where
  ex : ∃ f fd, Cls K C ∧ Meth K C m f ∧ Fu.FnG P w K mg base CX0 k f fd ps (liftPG ⟨P, w, K, τ, base⟩ sp) ∧ Binds K fd ps []
theorem ArgsAre.snoc {w : World} {C : Hp} {σ : St} {ρ : Ro} {j : Nat} {v : V} {s : Slot} (h1 : σ[j]? = some (some v)) (h2 : ownAt ρ j = some s) : ∀ {as : List CArg} {ss : List Slot} {vs : List V}, ArgsAre w C σ ρ as ss vs → ArgsAre w C σ ρ (as ++ [.r j]) (ss ++ [s]) (vs ++ [v])
  | _, _, _, .nil => .r h1 h2 .nil
  | _, _, _, .e a t => .e a (ArgsAre.snoc h1 h2 t)
  | _, _, _, .r a b t => .r a b (ArgsAre.snoc h1 h2 t)
section
variable {X : Cx} {CX : CXT} {k : Nat} {f C : Addr} {fd : FuncData} {ps : List Str} {sp : Sp} {dvs : List V} {ds : List Value} {E : XK} {x m : Str} {p pos apos : Pos} {e o : Expr} {es : List Expr} {ta : TE} {t : TA}
end
section
variable {X : Cx} {τ : Tb} {pos p1 apos : Pos} {e : Expr} {es : List Expr} {i γ : Nat} {n m : Str} {C : Addr}
end
end L2.Pu

set_option Elab.async false
set_option linter.all false
set_option maxRecDepth 100000
set_option maxHeartbeats 4000000
/-! ## Instances with a list of their own -/
namespace L2.Pu
open PySem PySem.Spec PyProof.Rows
section
variable {X : Cx} {τ : Tb} {pos p1 p2 apos : Pos} {e : Expr} {es : List Expr} {i γ : Nat} {n f g m : Str} {C : Addr}
end
/-! ### C(..), whose list is told -/
abbrev PSpN := List Slot → (PyData → List Slot → Slot → Prop) → Prop
def liftPN (T : PK) (sp : PSpN) : Sp := fun vs H Q _ => ∃ C ss, Stand T C H ss vs ∧ ∃ κ, sp ss κ ∧ ∀ d ss' g pg v C' H', κ d ss' g → (∀ r o, g = .own r o → r = false) → Same C C' → Rep T ⟨C, H, refsAt 0 ss vs⟩ (ss' ++ [g]) C' (vs.map some ++ [some (.ref pg)]) H' → ss'.length = vs.length → Da T.w C' v d → Q v H'
section
variable {τ : Tb} {P : Program} {w : World} {K : PySem.W.Frag} {mg : Str → Option Value} {base : Heap}
end
structure PClsN (τ : Tb) (P : Program) (w : World) (K : PySem.W.Frag) (mg : Str → Option Value) (base : Heap) (k : Nat) (x : Str) (C : Addr) (ps : List Str) (sp : PSpN) : Prop where
  ex : ∃ f fd, Mk K C f ∧ Fu.FnG P w K mg base CX0 k f fd ps (liftPN ⟨P, w, K, τ, base⟩ sp) ∧ mg x = some (.ref C) ∧ Binds K fd ps []
section
variable {X : Cx} {τ : Tb} {pos p p1 p2 : Pos} {e : Expr} {i γ : Nat} {x : Str} {C : Addr} {q : QE}
end
section
variable {X : Cx} {τ : Tb} {x y gn gn2 : Str} {i j γ δ : Nat} {a b : Expr} {px py pt pos pt2 : Pos} {kt k2 : Nat}
theorem Fresh.setVal {T : PK} {F : Fm} {ρ : Ro} {C : Hp} {σ : St} {p : Addr} {i : Nat} {d : PyData} {v : V} (f : Fresh F ρ C σ p) : Fresh F (ρ.set i (.val d)) C (σ.set i (some v)) p := ⟨f.core, f.start, fun j r o hj hv => by
  rcases getElem?_set' hj with ⟨_, e, _⟩ | ⟨ne, hj⟩
  · cases e
  · rw [List.getElem?_set_ne (Ne.symm ne)] at hv; exact f.owned j r o hj hv⟩
theorem Fresh.setOwn {F : Fm} {ρ : Ro} {C : Hp} {σ : St} {p p' : Addr} {i : Nat} {o : Own} (l : ρ.length = σ.length) (f : Fresh F ρ C σ p) (ne : p' ≠ p) : Fresh F (ρ.set i (.own false o)) C (σ.set i (some (.ref p'))) p := ⟨f.core, f.start, fun j r o' hj hv => by
  rcases getElem?_set' hj with ⟨rfl, _, lt⟩ | ⟨n2, hj⟩
  · rw [List.getElem?_set_self (by rw [← l]; exact lt)] at hv; cases hv; exact ne rfl
  · rw [List.getElem?_set_ne (Ne.symm n2)] at hv; exact f.owned j r o' hj hv⟩
end
end L2.Pu

set_option Elab.async false
set_option linter.all false
set_option maxRecDepth 100000
set_option maxHeartbeats 4000000
/-! ## enumerate over a tuple, the pairs' objects known -/
namespace L2.Pu
open PySem PySem.Spec PyProof.Rows
open Sem (wp)
open AutoSeq1 (wpAny_loadPart')
section
variable {prog : Program} {w : World} {A : Around} {E : Value → Shared → Prop} {s : Shared}
end
section
variable {X : Cx} {τ : Tb} {pos tpos p : Pos} {e : Expr} {elts : List Expr} {kk : Nat}
end
end L2.Pu

set_option Elab.async false
set_option linter.all false
set_option maxRecDepth 100000
set_option maxHeartbeats 4000000
/-! ## small rules beside ghosts -/
namespace L2.Pu
open PySem PySem.Spec PyProof.Rows
end L2.Pu

set_option Elab.async false
set_option linter.all false
set_option maxRecDepth 100000
set_option maxHeartbeats 4000000
/-! ## sorted of a tuple of data -/
namespace PySem.W
open PySem PySem.Spec PyProof.Rows
section
variable {prog : Program} {w : World} {A : Around} {E : Value → Shared → Prop} {s : Shared}
end
end PySem.W
namespace L2.Pu
open PySem PySem.Spec PyProof.Rows
section
variable {X : Cx} {τ : Tb} {pos p : Pos} {e : Expr} {es : List Expr}
end
end L2.Pu

set_option Elab.async false
set_option linter.all false
set_option maxRecDepth 100000
set_option maxHeartbeats 4000000
/-! ## != of two instances by the class's own == -/
namespace L2.Pu
open PySem PySem.Spec PyProof.Rows
section
variable {M : Model} {prog : Program} {w : World} {A : Around} {E : Value → Shared → Prop} {s : Shared} {K : PySem.W.Frag} {x y C f : Addr} {ox oy : Obj} {od od' : Option Obj}
end
/-- what != asks of a class -/
structure NeCls (K : PySem.W.Frag) (C : Addr) : Prop where
  mro : PySem.W.mroIn K C (.type "object") = some true
  ne : PySem.W.findIn K (.ref C) "__ne__" = some (some (.builtin "object.__ne__"))
section
variable {X : Cx} {τ : Tb} {pos p1 p2 p : Pos} {n1 n2 : Str} {i j : Nat} {C : Addr}
/-- what isinstance asks of a class -/
structure TyCls (K : PySem.W.Frag) (C : Addr) : Prop where
  cl : Cls K C
  c1 : PySem.W.findIn K (.ref C) "__class__" = some (some (.builtin "object.__class__"))
  c2 : PySem.W.specialIn K (.builtin "object.__class__") "__get__" = some (some (.builtin "getset_descriptor.__get__"))
  c3 : PySem.W.takesIn K (.builtin "object.__class__") = some true
  c4 : PySem.W.mroIn K C (.type "object") = some true
end
end L2.Pu

set_option Elab.async false
set_option linter.all false
set_option maxRecDepth 100000
set_option maxHeartbeats 4000000
/-! ## o.m(k = ..), C(k = ..): methods and makes by keywords alone -/
namespace L2.Pu
open PySem PySem.Spec PyProof.Rows
/-- a method by keywords -/
structure PMethK (τ : Tb) (P : Program) (w : World) (K : PySem.W.Frag) (mg : Str → Option Value) (base : Heap) (k : Nat) (C : Addr) (m : Str) (ps ks : List Str) (pm : List Nat) (sp : PSp) : Prop where
  ex : ∃ f fd, Cls K C ∧ Meth K C m f ∧ Fu.FnG P w K mg base CX0 k f fd ps (liftPG ⟨P, w, K, τ, base⟩ sp) ∧ ∀ (s : Shared) (a : Value) (ws : List Value), ws.length = ks.length → BindsTo s fd ⟨[a], ks.zip ws⟩ (ps.zip (a :: pick pm ws))
section
variable {X : Cx} {τ : Tb} {pos p p1 apos : Pos} {e : Expr} {kws : List Keyword} {i γ : Nat} {n m x : Str} {C : Addr}
/-- C(x = e) -/
structure PClsK (τ : Tb) (P : Program) (w : World) (K : PySem.W.Frag) (mg : Str → Option Value) (base : Heap) (k : Nat) (x : Str) (C : Addr) (ps : List Str) (kn : Str) (sp : PSpN) : Prop where
  ex : ∃ f fd, Mk K C f ∧ Fu.FnG P w K mg base CX0 k f fd ps (liftPN ⟨P, w, K, τ, base⟩ sp) ∧ mg x = some (.ref C) ∧ ∀ (s : Shared) (a u : Value), BindsTo s fd ⟨[a], [(kn, u)]⟩ (ps.zip [a, u])
end
end L2.Pu

set_option Elab.async false
set_option linter.all false
set_option maxRecDepth 100000
set_option maxHeartbeats 4000000
/-! ## Own dicts with pair keys whose values are lists that grow: the lists stand in ghosts -/
namespace L2.Pu
open PySem PySem.Spec PyProof.Rows
abbrev Ge := List Key × Addr × List PyData
/-- at i such a dict, its lists at γ and behind -/
structure GhAt (ρ : Ro) (i γ : Nat) (r : Bool) (es : List Ge) : Prop where
  dic : ρ[i]? = some (.own r (.dcq (es.map fun e => (e.1, e.2.1))))
  lst : ∀ j e, es[j]? = some e → ρ[j + γ]? = some (.own false (.lsa e.2.1 e.2.2))
section
variable {X : Cx} {τ : Tb} {pins : List (Addr × Obj)} {σ : St} {H : Hp} {s : Shared}
end
section
variable {X : Cx} {τ : Tb} {pos p pos' apos : Pos} {a b e : Expr} {es : List Expr} {qa qb : QE} {i j γ : Nat}
end
section
variable {X : Cx} {τ : Tb} {pos p pos' apos : Pos} {n k : Str} {p1 p2 : Pos} {b e : Expr} {es : List Expr} {qa qb : QE} {i j γ : Nat}
end
end L2.Pu

set_option Elab.async false
set_option linter.all false
set_option maxRecDepth 100000
set_option maxHeartbeats 4000000
/-! ## sorted(d) of an own dict with pair keys; its lists become data -/
namespace PySem.W
open PySem PySem.Calls PyProof.Rows PyProof.V PySem.Spec
section
variable {prog : Program} {w : World} {A : Around} {E : Value → Shared → Prop} {s : Shared} {T : String} {r d : Addr} {n : Nat} {P : Nat → Value → Prop} {OK : Heap → Prop}
end
end PySem.W
namespace L2.Pu
open PySem PySem.Spec PyProof.Rows
section
variable {X : Cx} {τ : Tb} {pos p : Pos} {e : Expr} {i γ : Nat} {n : Str} {p1 : Pos}
end
end L2.Pu

set_option Elab.async false
set_option linter.all false
set_option maxRecDepth 100000
set_option maxHeartbeats 4000000
/-! ## a new own dict with text keys as data -/
namespace L2.Pu
open PySem PySem.Spec PyProof.Rows
section
variable {X : Cx} {τ : Tb} {e : Expr}
end
end L2.Pu

set_option Elab.async false
set_option linter.all false
set_option maxRecDepth 100000
set_option maxHeartbeats 4000000
/-! ## tuple(d.items()), d a dict with tuple keys -/
namespace RT
open PySem PySem.Spec PyProof.Rows
section
variable {prog : Program} {w : World} {A : Around} {E : Value → Shared → Prop} {s : Shared} {r d : Addr} {es : Array DictEntry} {ep : Nat}
end
end RT
namespace L2.Pu
open PySem PySem.Spec PyProof.Rows
open L2.DX (itemsO itemsO_ok)
section
variable {X : Cx} {τ : Tb} {o e : Expr} {to : TE} {apos cpos pos p : Pos}
end
end L2.Pu

set_option Elab.async false
set_option linter.all false
set_option maxRecDepth 100000
set_option maxHeartbeats 4000000
/-! ## defs that return a new own thing -/
namespace L2.Pu
open PySem PySem.Spec PyProof.Rows
abbrev PSpO := List Slot → (Own → List Slot → Prop) → Prop
def liftPO (T : PK) (sp : PSpO) : Sp := fun vs H Q _ => ∃ C ss, Stand T C H ss vs ∧ ∃ κ, sp ss κ ∧ ∀ o ss' p C' H', κ o ss' → Same C C' → Rep T ⟨C, H, refsAt 0 ss vs⟩ ss' C' (vs.map some) H' → OwnAt T C' H' p o → C' p = none → H p = none → Q (.ref p) H'
structure PFnO (τ : Tb) (P : Program) (w : World) (K : PySem.W.Frag) (mg : Str → Option Value) (base : Heap) (k : Nat) (x : Str) (ps : List Str) (sp : PSpO) : Prop where
  ex : ∃ f fd, Fu.FnG P w K mg base CX0 k f fd ps (liftPO ⟨P, w, K, τ, base⟩ sp) ∧ mg x = some (.ref f) ∧ PySem.W.keepIn K (.ref f) = true ∧ Binds K fd ps []
section
variable {τ : Tb} {P : Program} {w : World} {K : PySem.W.Frag} {mg : Str → Option Value} {base : Heap}
end
section
variable {X : Cx} {τ : Tb} {pos p : Pos} {e : Expr} {es : List Expr}
end
end L2.Pu

set_option Elab.async false
set_option linter.all false
set_option maxRecDepth 100000
set_option maxHeartbeats 4000000
/-! ## d.setdefault(k, []).append(e), sorted(d) of an own dict with data -/
namespace L2.Pu
open PySem PySem.Spec PyProof.Rows
section
variable {X : Cx} {τ : Tb} {o e : Expr} {es : List Expr} {to : TE} {t : TA} {apos cpos pos p : Pos}
end
section
variable {X : Cx} {τ : Tb} {pos p pos' apos apos2 cpos2 lpos spos : Pos} {n k : Str} {p1 p2 : Pos} {ea : Expr} {i j l γ : Nat}
end
end L2.Pu

set_option Elab.async false
set_option linter.all false
set_option maxRecDepth 100000
set_option maxHeartbeats 4000000
/-! ## range(a, b); loops that raise -/
namespace L2.Pu
open PySem PySem.Spec PyProof.Rows
section
variable {X : Cx} {τ : Tb} {W : WX} {pos : Pos}
end
section
variable {X : Cx} {τ : Tb} {tg a b : Expr} {p pos : Pos}
end
section
variable {τ : Tb} {P : Program} {w : World} {K : PySem.W.Frag} {mg : Str → Option Value} {base : Heap}
end
end L2.Pu

set_option Elab.async false
set_option linter.all false
set_option maxRecDepth 100000
set_option maxHeartbeats 4000000
/-! ## except C: (without a name) -/
namespace L2.Pu
open PySem PySem.Spec PyProof.Rows
section
variable {X : Cx} {τ : Tb} {pos pos' : Pos}
end
end L2.Pu

set_option Elab.async false
set_option linter.all false
set_option maxRecDepth 100000
set_option maxHeartbeats 4000000
/-! ## d.setdefault(k, v), d an own dict whose keys are tuples of texts -/
namespace L2.Pu
open PySem PySem.Spec PyProof.Rows
section
variable {X : Cx} {τ : Tb} {o e : Expr} {es : List Expr} {to : TE} {t : TA} {apos cpos pos p : Pos}
end
section
variable {X : Cx} {τ : Tb} {pos p apos cpos : Pos} {o e : Expr} {es : List Expr} {i n : Nat}
end
end L2.Pu

set_option Elab.async false
set_option linter.all false
set_option maxRecDepth 100000
set_option maxHeartbeats 4000000
/-! ## list(d.items()), d a dict with tuple keys; for x in reversed(list) -/
namespace L2.Pu
open PySem PySem.Spec PyProof.Rows
open L2.DX (itemsO itemsO_ok)
section
variable {X : Cx} {τ : Tb} {o e : Expr} {to : TE} {apos cpos pos p : Pos}
end
section
variable {X : Cx} {τ : Tb} {tg e : Expr} {p pos : Pos}
end
end L2.Pu

set_option Elab.async false
set_option linter.all false
set_option maxRecDepth 100000
set_option maxHeartbeats 4000000
/-! ## sorted(groups, key=lambda y: [z[0] for z in y]) -/
namespace L2.Pu
open PySem PySem.Spec PyProof.Rows
/-- the scope of a key without len -/
structure KeyS0 (y : Str) (scope : Scope) : Prop where
  kind : scope.kind = .function
  co : scope.isCoroutine = false
  gen : scope.isGenerator = false
  cells : ∀ x ∈ scope.names, x.2 ≠ .cell
  free : ∀ x ∈ scope.names, x.2 ≠ .free
  own : scope.names.lookup y = some .local
section
variable {X : Cx} {pins : List (Addr × Obj)} {σ : St} {H : Hp} {s : Shared}
end
section
variable {X : Cx} {τ : Tb} {pos p kpos lpos : Pos} {e : Expr}
end
end L2.Pu

set_option Elab.async false
set_option linter.all false
set_option maxRecDepth 100000
set_option maxHeartbeats 4000000
/-! ## f(data, .., a new own thing) -/
namespace L2.Pu
open PySem PySem.Spec PyProof.Rows
section
variable {X : Cx} {τ : Tb} {pos p : Pos} {e ef : Expr} {es : List Expr}
end
end L2.Pu

set_option Elab.async false
set_option linter.all false
set_option maxRecDepth 100000
set_option maxHeartbeats 4000000
/-! ## f(.., an instance, ..), whose list is a ghost -/
namespace L2.Pu
open PySem PySem.Spec PyProof.Rows
structure PFnGh (τ : Tb) (P : Program) (w : World) (K : PySem.W.Frag) (mg : Str → Option Value) (base : Heap) (k : Nat) (x : Str) (ps : List Str) (sp : PSp) : Prop where
  ex : ∃ f fd, Fu.FnG P w K mg base CX0 k f fd ps (liftPG ⟨P, w, K, τ, base⟩ sp) ∧ mg x = some (.ref f) ∧ PySem.W.keepIn K (.ref f) = true ∧ Binds K fd ps []
section
variable {X : Cx} {τ : Tb} {pos p : Pos} {e : Expr} {es : List Expr} {γ : Nat}
end
end L2.Pu

set_option Elab.async false
set_option linter.all false
set_option maxRecDepth 100000
set_option maxHeartbeats 4000000
/-! ## o.f, o.g = o.past.pop(); a def that returns an instance with a list of its own -/
namespace L2.Pu
open PySem PySem.Spec PyProof.Rows
section
variable {X : Cx} {τ : Tb} {pos p1 p2 apos fpos p : Pos} {e o : Expr} {es : List Expr} {i γ : Nat} {n f g x : Str} {C : Addr} {ta : TE}
end
/-! ### a def that returns an instance with a list of its own -/
abbrev PSpGO := List Slot → (Own → Own → List Slot → Prop) → Prop
def liftPGO (T : PK) (sp : PSpGO) : Sp := fun vs H Q _ => ∃ C ss, Stand T C H ss vs ∧ ∃ κ, sp ss κ ∧ ∀ o g ss' p pg C' H', κ o g ss' → Same C C' → Rep T ⟨C, H, refsAt 0 ss vs⟩ ss' C' (vs.map some) H' → OwnAt T C' H' p o → OwnAt T C' H' pg g → C' p = none → H p = none → C' pg = none → H pg = none → p ≠ pg → Q (.ref p) H'
structure PFnGO (τ : Tb) (P : Program) (w : World) (K : PySem.W.Frag) (mg : Str → Option Value) (base : Heap) (k : Nat) (x : Str) (ps : List Str) (sp : PSpGO) : Prop where
  ex : ∃ f fd, Fu.FnG P w K mg base CX0 k f fd ps (liftPGO ⟨P, w, K, τ, base⟩ sp) ∧ mg x = some (.ref f) ∧ PySem.W.keepIn K (.ref f) = true ∧ Binds K fd ps []
section
variable {τ : Tb} {P : Program} {w : World} {K : PySem.W.Frag} {mg : Str → Option Value} {base : Heap}
end
section
variable {X : Cx} {τ : Tb} {pos p : Pos} {e : Expr} {es : List Expr}
end
end L2.Pu

set_option Elab.async false
set_option linter.all false
set_option maxRecDepth 100000
set_option maxHeartbeats 4000000
namespace L2.Pu
open PySem PySem.Spec PyProof.Rows
def top (i : Nat) : Stmt := PySem.Challenge.pw_featureunion_k04_great_formulas.main.body.getD i (.Pass ⟨0, 0, 0, 0⟩)
abbrev s_is_name : Stmt := top 5
abbrev n_is_name : List Str := ["thing", "letter"]
abbrev p_is_name : List Str := ["thing"]
theorem sc_is_name : FnScope n_is_name p_is_name (defScope s_is_name) := ⟨rfl, rfl, rfl, by decide +kernel, rfl, by decide +kernel, by decide +kernel⟩
abbrev s_has_outer_form : Stmt := top 6
abbrev n_has_outer_form : List Str := ["thing", "word"]
abbrev p_has_outer_form : List Str := ["thing"]
theorem sc_has_outer_form : FnScope n_has_outer_form p_has_outer_form (defScope s_has_outer_form) := ⟨rfl, rfl, rfl, by decide +kernel, rfl, by decide +kernel, by decide +kernel⟩
abbrev s_parts_of : Stmt := top 7
abbrev n_parts_of : List Str := ["formula"]
abbrev p_parts_of : List Str := ["formula"]
theorem sc_parts_of : FnScope n_parts_of p_parts_of (defScope s_parts_of) := ⟨rfl, rfl, rfl, by decide +kernel, rfl, by decide +kernel, by decide +kernel⟩
abbrev s_is_formula : Stmt := top 8
abbrev n_is_formula : List Str := ["thing", "waiting", "found", "part", "depth", "inner", "formula"]
abbrev p_is_formula : List Str := ["thing"]
theorem sc_is_formula : FnScope n_is_formula p_is_formula (defScope s_is_formula) := ⟨rfl, rfl, rfl, by decide +kernel, rfl, by decide +kernel, by decide +kernel⟩
abbrev s_formulas_in : Stmt := top 9
abbrev n_formulas_in : List Str := ["formula", "found", "waiting", "part"]
abbrev p_formulas_in : List Str := ["formula"]
theorem sc_formulas_in : FnScope n_formulas_in p_formulas_in (defScope s_formulas_in) := ⟨rfl, rfl, rfl, by decide +kernel, rfl, by decide +kernel, by decide +kernel⟩
abbrev s_features_of : Stmt := top 10
abbrev n_features_of : List Str := ["formula", "part"]
abbrev p_features_of : List Str := ["formula"]
theorem sc_features_of : FnScope n_features_of p_features_of (defScope s_features_of) := ⟨rfl, rfl, rfl, by decide +kernel, rfl, by decide +kernel, by decide +kernel⟩
abbrev s_holds : Stmt := top 11
abbrev n_holds : List Str := ["formula", "features", "word", "answers", "part"]
abbrev p_holds : List Str := ["formula", "features"]
theorem sc_holds : FnScope n_holds p_holds (defScope s_holds) := ⟨rfl, rfl, rfl, by decide +kernel, rfl, by decide +kernel, by decide +kernel⟩
abbrev s_is_positive : Stmt := top 12
abbrev n_is_positive : List Str := ["formula", "part"]
abbrev p_is_positive : List Str := ["formula"]
theorem sc_is_positive : FnScope n_is_positive p_is_positive (defScope s_is_positive) := ⟨rfl, rfl, rfl, by decide +kernel, rfl, by decide +kernel, by decide +kernel⟩
abbrev s_L_hand : Stmt := top 14
abbrev n_L_hand : List Str := ["_law_script", "_law_k", "_law_cell", "_law_great"]
abbrev p_L_hand : List Str := ["_law_script", "_law_k"]
theorem sc_L_hand : FnScope n_L_hand p_L_hand (defScope s_L_hand) := ⟨rfl, rfl, rfl, by decide +kernel, rfl, by decide +kernel, by decide +kernel⟩
abbrev s_L_take : Stmt := top 15
abbrev n_L_take : List Str := ["_law_hand_here", "_law_many", "_law_digit", "_law_prime", "_law_drawn"]
abbrev p_L_take : List Str := ["_law_hand_here", "_law_many"]
theorem sc_L_take : FnScope n_L_take p_L_take (defScope s_L_take) := ⟨rfl, rfl, rfl, by decide +kernel, rfl, by decide +kernel, by decide +kernel⟩
abbrev s_L_of : Stmt := top 16
abbrev n_L_of : List Str := ["_law_hand_here", "_law_some_here"]
abbrev p_L_of : List Str := ["_law_hand_here", "_law_some_here"]
theorem sc_L_of : FnScope n_L_of p_L_of (defScope s_L_of) := ⟨rfl, rfl, rfl, by decide +kernel, rfl, by decide +kernel, by decide +kernel⟩
abbrev s_L_some : Stmt := top 17
abbrev n_L_some : List Str := ["_law_hand_here", "_law_things", "_law_often", "_law_thing"]
abbrev p_L_some : List Str := ["_law_hand_here", "_law_things", "_law_often"]
theorem sc_L_some : FnScope n_L_some p_L_some (defScope s_L_some) := ⟨rfl, rfl, rfl, by decide +kernel, rfl, by decide +kernel, by decide +kernel⟩
abbrev s_L_names : Stmt := top 18
abbrev n_L_names : List Str := ["_law_hand_here", "_law_count", "_law_left"]
abbrev p_L_names : List Str := ["_law_hand_here", "_law_count"]
theorem sc_L_names : FnScope n_L_names p_L_names (defScope s_L_names) := ⟨rfl, rfl, rfl, by decide +kernel, rfl, by decide +kernel, by decide +kernel⟩
abbrev s_L_holds : Stmt := top 19
abbrev n_L_holds : List Str := ["_law_formula", "_law_some_here", "_law_parts", "_law_part"]
abbrev p_L_holds : List Str := ["_law_formula", "_law_some_here"]
theorem sc_L_holds : FnScope n_L_holds p_L_holds (defScope s_L_holds) := ⟨rfl, rfl, rfl, by decide +kernel, rfl, by decide +kernel, by decide +kernel⟩
abbrev s_L_grown : Stmt := top 20
abbrev n_L_grown : List Str := ["_law_hand_here", "_law_names_here", "_law_found", "_law_turn", "_law_many", "_law_beside", "_law_head", "_law_longer", "_law_part"]
abbrev p_L_grown : List Str := ["_law_hand_here", "_law_names_here"]
theorem sc_L_grown : FnScope n_L_grown p_L_grown (defScope s_L_grown) := ⟨rfl, rfl, rfl, by decide +kernel, rfl, by decide +kernel, by decide +kernel⟩
abbrev s_L_features : Stmt := top 21
abbrev n_L_features : List Str := ["_law_formula", "_law_found", "_law_part"]
abbrev p_L_features : List Str := ["_law_formula"]
theorem sc_L_features : FnScope n_L_features p_L_features (defScope s_L_features) := ⟨rfl, rfl, rfl, by decide +kernel, rfl, by decide +kernel, by decide +kernel⟩
abbrev s_law : Stmt := top 22
abbrev n_law : List Str := ["_law_script", "_law_k", "_law_hand_here", "_law_names_here", "_law_turn", "_law_formula", "_law_due", "_law_again", "_law_some_here"]
abbrev p_law : List Str := ["_law_script"]
theorem sc_law : FnScope n_law p_law (defScope s_law) := ⟨rfl, rfl, rfl, by decide +kernel, rfl, by decide +kernel, by decide +kernel⟩
section
variable {P : Program} {w : World} {K : PySem.W.Frag} {mg : Str → Option Value} {base : Heap} {τ : Tb}
end
end L2.Pu

set_option Elab.async false
set_option linter.all false
set_option maxRecDepth 100000
set_option maxHeartbeats 4000000
namespace L2.Pu
open PySem PySem.Spec PyProof.Rows
section
variable {P : Program} {w : World} {K : PySem.W.Frag} {mg : Str → Option Value} {base : Heap}
theorem okn_hand {f : Addr} {fd : FuncData} (F : Fun K "_law_hand" "_law_hand" s_L_hand f fd) (zLen : mg "len" = none) (zAbs : mg "abs" = none) (zInt : mg "int" = none) : FnOk P w K mg base CX0 1 f fd ["_law_script", "_law_k"] (spHandN K) := by
  refine F.ok sc_L_hand (fun vs H Q E h => ?_) (fun cdv A outer s H vs Q E hr h => ?_)
  · obtain ⟨a, ns, k, rfl, _⟩ := h
    rfl
  · obtain ⟨a, ns, k, rfl, hS, k0, k1, q⟩ := h
    refine ⟨_, pss_cons (ps_set (i := 2) sc_L_hand.nd rfl (.inl rfl) (pe_imp (Fu.tCell K) (pe_ifExp (pt_cmpR op_lt (pv 1) (pe_callB call_len_seq (by rfl) zLen PySem.boot_len (pa_cons (pv 0) pa_nil)) (nomark _)) (pe_ix ix_list (pv 0) (pv 1) (fun _ _ => rfl)) pe_int) ?cell))
      (pss_cons (ps_set (i := 3) sc_L_hand.nd rfl (.inl rfl) (pe_op op_mul (pe_op op_mod (pe_callB call_abs (by rfl) zAbs (by decide +kernel) (pa_cons (pv 2) pa_nil))
          (pe_op op_mulW (pe_op op_mulW (pe_op op_pow pe_int pe_int) (pe_op op_pow pe_int pe_int)) (pe_op op_pow pe_int pe_int)))
        (pe_callTy call_int1 (by rfl) zInt (by decide +kernel) (pa_cons (pe_cmpR op_ge (pe_callB call_abs (by rfl) zAbs (by decide +kernel) (pa_cons (pv 2) pa_nil)) (pe_op op_pow pe_int pe_int) (nomark _)) pa_nil))))
      (pss_one (ps_ret (pe_lst (pa_cons (pv 3) (pa_cons (pe_op op_mod (pe_op op_mul (pe_op op_add (pe_op op_add (pe_op op_mod (pv 2) pe_int) (pe_op op_mul pe_int (pv 1))) pe_int) pe_int) pe_int) (pa_cons pe_int pa_nil))))))), ?_⟩
    case cell =>
      rintro σ H1 Q1 ⟨a, ns, k, e0, e1, hs, h0, hq⟩
      refine ⟨_, e1, _, e0, a, _, rfl, .inl hs, _, _, rfl, rfl, _, rfl, ite2 (fun hc => ?_) (fun hc => hq 0)⟩
      have hlt : k < ((ns.map V.int).length : Int) := of_decide_eq_true hc
      obtain ⟨v, hv, hm⟩ := Fu.atI_in h0 hlt
      obtain ⟨c, _, rfl⟩ := List.mem_map.mp hm
      exact ⟨_, e0, _, e1, a, _, k, _, rfl, rfl, hs, hv, hq c⟩
    refine ⟨a, ns, k, rfl, rfl, hS, k0, fun cell => ?_⟩
    refine ⟨_, rfl, cell, rfl, _, _, rfl, rfl, ⟨by decide, by decide, by decide⟩, _, _, rfl, rfl, ⟨by decide, by decide, by decide⟩, _, _, rfl, rfl, wide_mul Fu.big_one Fu.big_one (by decide) (by decide) (by decide), _, _, rfl, rfl, ⟨by decide, by decide, by decide⟩,
      _, _, rfl, rfl, wide_mul Fu.big_two Fu.big_one (by decide) (by decide) (by decide), _, _, rfl, rfl, Fu.big_pos, _, rfl, cell, rfl, _, _, rfl, rfl, ⟨by decide, by decide, by decide⟩, _, _, rfl, rfl, .inr ⟨_, rfl, _, _, rfl, rfl, .inr ?_, ?_⟩⟩
    · exact Fu.bit_small _
    · refine ⟨_, rfl, _, rfl, _, _, rfl, rfl, (by show (0 : Int) < 2147483629; decide), _, rfl, _, _, rfl, rfl, .inl ⟨by decide, by decide⟩, _, _, rfl, rfl, _, _, rfl, rfl, _, _, rfl, rfl, .inr ⟨by decide, by decide⟩, _, _, rfl, rfl, (by show (0 : Int) < 2147483647; decide), (by show 3 ≤ sizeLine; decide), fun p np => ?_⟩
      exact q p _ _ np (Int.emod_nonneg _ (by decide)) (Int.emod_lt_of_pos _ (by decide))
theorem okn_take {f : Addr} {fd : FuncData} (F : Fun K "_law_take" "_law_take" s_L_take f fd) : FnOk P w K mg base CX0 1 f fd ["_law_hand_here", "_law_many"] spTakeN := by
  refine F.ok sc_L_take (fun vs H Q E h => ?_) (fun cdv A outer s H vs Q E hr h => ?_)
  · obtain ⟨p, g, a, c, m, rfl, _⟩ := h
    rfl
  · obtain ⟨p, g, a, c, m, rfl, m0, m1, e, a0, a1, c0, hn, q⟩ := h
    have c1 : c ≤ ((c.toNat : Nat) : Int) := by omega
    have hn' : c.toNat < 1000000000 := by omega
    have nt1 : ∀ xs : List V, NT H (L2.upd H p (.lst xs)) := fun xs b ps k => by
      by_cases hb : b = p
      · rw [hb, upd_same] at k; cases k
      · rw [upd_ne hb] at k; exact k
    refine ⟨_, pss_cons (ps_if (pt_cmpR op_gt (pe_ix ix_list (pv 0) pe_int (fun _ _ => rfl)) pe_int (nomark _))
        (pss_cons (ps_set (i := 2) sc_L_take.nd rfl (.inl rfl) (pe_op op_mod (pe_ix ix_list (pv 0) pe_int (fun _ _ => rfl)) (pv 1)))
          (pss_cons (ps_asg (pe_op op_fdivW (pe_ix ix_list (pv 0) pe_int (fun _ _ => rfl)) (pv 1)) (pg_sub (pv 0) pe_int set_list)) (pss_one (ps_ret (pv 2))))) pss_nil)
      (pss_cons (ps_asg (pe_op op_add (pe_ix ix_list (pv 0) pe_int (fun _ _ => rfl)) pe_int) (pg_sub (pv 0) pe_int set_list))
      (pss_cons (ps_set (i := 3) sc_L_take.nd rfl (.inl rfl) (pe_ix ix_list (pe_lst (pa_cons pe_int (pa_cons pe_int (pa_cons pe_int (pa_cons pe_int (pa_cons pe_int pa_nil)))))) (pe_op op_mod (pe_ix ix_list (pv 0) pe_int (fun _ _ => rfl)) pe_int) (fun _ _ => rfl)))
      (pss_cons (ps_set (i := 4) sc_L_take.nd rfl (.inl rfl) (pe_op op_mod (pe_op op_pow (pe_op op_add (pe_ix ix_list (pv 0) pe_int (fun _ _ => rfl)) (pe_op op_mul pe_int (pe_ix ix_list (pv 0) pe_int (fun _ _ => rfl)))) pe_int) (pv 3)))
      (pss_one (ps_ret (pe_op op_mod (pe_op op_fdiv (pe_op op_mod (pe_op op_mul (pv 4) (pe_op op_add (pe_op op_mod (pv 4) pe_int) (pe_ix ix_list (pv 0) pe_int (fun _ _ => rfl)))) (pv 3)) pe_int) (pv 1))))))), ?_⟩
    have i0 : ∀ x y u : V, atI [x, y, u] 0 = some x := fun _ _ _ => rfl
    have i1 : ∀ x y u : V, atI [x, y, u] 1 = some y := fun _ _ _ => rfl
    have i2 : ∀ x y u : V, atI [x, y, u] 2 = some u := fun _ _ _ => rfl
    refine ⟨_, rfl, p, _, _, _, rfl, rfl, SqL.of e, i0 _ _ _, _, _, rfl, rfl, _, rfl, ite2 (fun hc => ?_) (fun hc => ?_)⟩
    · refine ⟨_, rfl, p, _, _, _, rfl, rfl, SqL.of e, i0 _ _ _, _, rfl, _, _, rfl, rfl, m0, ?_⟩
      refine ⟨_, rfl, p, _, _, _, rfl, rfl, SqL.of e, i0 _ _ _, _, rfl, _, _, rfl, rfl, wide_div m0 (b := 60) (by omega) (by decide) (by decide), _, rfl, p, _, _, 0, rfl, rfl, e, rfl, ?_⟩
      refine ⟨_, rfl, q _ _ _ c (Int.emod_nonneg _ (by omega)) (Int.emod_lt_of_pos _ m0) (fun b u hb k => by rw [upd_ne hb]; exact k) (nt1 _) upd_same c0 (by omega)⟩
    · refine ⟨_, rfl, p, _, _, _, rfl, rfl, SqL.of e, i2 _ _ _, _, _, rfl, rfl, _, rfl, p, _, _, 2, rfl, rfl, e, rfl, ?_⟩
      obtain ⟨pr, hpr, pr0, pr1⟩ := Fu.prime_at (c + 1) (by omega)
      refine ⟨(by show 5 ≤ sizeLine; decide), fun r nr => ?_⟩
      have nrp : p ≠ r := ne_of_none (upd_same (H := H) (a := p) (o := .lst [.int g, .int a, .int (c + 1)])) nr
      have e2 : L2.upd (L2.upd H p (.lst [.int g, .int a, .int (c + 1)])) r (.lst [.int 2147483647, .int 2147483629, .int 2147483587, .int 2147483579, .int 2147483563]) p = some (.lst [.int g, .int a, .int (c + 1)]) := by
        rw [upd_ne nrp, upd_same]
      refine ⟨_, rfl, p, _, _, _, rfl, rfl, SqL.of e2, i2 _ _ _, _, _, rfl, rfl, (by show (0 : Int) < 5; decide), r, _, _, _, rfl, rfl, SqL.of upd_same, hpr, ?_⟩
      refine ⟨_, rfl, p, _, _, _, rfl, rfl, SqL.of e2, i1 _ _ _, _, rfl, p, _, _, _, rfl, rfl, SqL.of e2, i2 _ _ _, _, _, rfl, rfl, .inl ⟨by decide, by decide⟩, _, _, rfl, rfl, _, _, rfl, rfl, ⟨by decide, by decide, Fu.small_pow a0 a1 c0 c1 hn'⟩, _, rfl, _, _, rfl, rfl, pr0, ?_⟩
      have d0 : 0 ≤ (a + 7919 * (c + 1)) ^ (3 : Int).toNat % pr := Int.emod_nonneg _ (by omega)
      have d1 : (a + 7919 * (c + 1)) ^ (3 : Int).toNat % pr < pr := Int.emod_lt_of_pos _ pr0
      refine ⟨_, rfl, _, rfl, _, _, rfl, rfl, (by show (0 : Int) < 1009; decide), _, rfl, p, _, _, _, rfl, rfl, SqL.of e2, i2 _ _ _, _, _, rfl, rfl, _, _, rfl, rfl, .inl ⟨by omega, by omega⟩, _, rfl, _, _, rfl, rfl, pr0, _, _, rfl, rfl, ⟨by decide, by decide⟩, _, rfl, _, _, rfl, rfl, m0, ?_⟩
      refine q _ _ g (c + 1) (Int.emod_nonneg _ (by omega)) (Int.emod_lt_of_pos _ m0) (fun b u hb k => ?_) (fun b ps k => ?_) e2 (by omega) (by omega)
      · rw [upd_ne (ne_of_none (by rw [upd_ne hb]; exact k) nr), upd_ne hb]; exact k
      · by_cases hb : b = r
        · rw [hb, upd_same] at k; cases k
        · rw [upd_ne hb] at k; exact nt1 _ b ps k
end
end L2.Pu
namespace L2.Pu
open PySem PySem.Spec PyProof.Rows
section
variable {P : Program} {w : World} {K : PySem.W.Frag} {mg : Str → Option Value} {base : Heap} {τ : Tb}
theorem pf_L_of {f : Addr} {fd : FuncData} (F : Fun K "_law_of" "_law_of" s_L_of f fd) (hm : mg "_law_of" = some (.ref f)) (hk : PySem.W.keepIn K (.ref f) = true) (hb : Binds K fd p_L_of []) (z_len : mg "len" = none) (G_L_take : PFn τ P w K mg base 1 "_law_take" p_L_take spTake) : PFn τ P w K mg base 2 "_law_of" p_L_of spOf := by
  refine fn_ofC F hm hk hb sc_L_of (fun ss κ h => by obtain ⟨n, ds, rfl, _⟩ := h; rfl) fun cdv A outer s H E code gd hr => ?_
  refine ⟨_, (qss_one (qs_ret (qe_ix (qe_var (pv 1)) (qe_call G_L_take gd (hr.mono (by omega)) (by rfl) (qc_r (pv 0) (qc_e (qe_len (by rfl) z_len (qb_e (qe_var (pv 1)) qb_nil)) qc_nil)) (apart_of (by first | decide | simp [refsOf])))))), fun ss κ h => ?_⟩
  obtain ⟨n, ds, rfl, h0, h1, k⟩ := h
  ((conv => whnf); repeat (refine And.intro (Eq.refl _) ?_; conv => whnf))
  have l0 : 0 < ds.length := List.length_pos_iff.mpr h0
  refine ⟨by omega, by omega, fun x x0 x1 => ?_⟩
  obtain ⟨d, hd, e⟩ := atI_mem x0 x1
  ((conv => whnf); repeat (refine And.intro (Eq.refl _) ?_; conv => whnf))
  rw [e]; ((conv => whnf); repeat (refine And.intro (Eq.refl _) ?_; conv => whnf))
  exact k d hd
theorem pf_L_some {f : Addr} {fd : FuncData} (F : Fun K "_law_some" "_law_some" s_L_some f fd) (hm : mg "_law_some" = some (.ref f)) (hk : PySem.W.keepIn K (.ref f) = true) (hb : Binds K fd p_L_some []) (z_tuple : mg "tuple" = none) (G_L_take : PFn τ P w K mg base 1 "_law_take" p_L_take spTake) : PFn τ P w K mg base 2 "_law_some" p_L_some spSome := by
  refine fn_ofC F hm hk hb sc_L_some (fun ss κ h => by obtain ⟨n, xs, o, rfl, _⟩ := h; rfl) fun cdv A outer s H E code gd hr => ?_
  refine ⟨_, (qss_one (qs_ret (qe_tuple (by rfl) z_tuple (qb_e (qe_of (qf_lc (own := [("_law_thing", 3)]) rfl sc_L_some.nd (qi_any (qe_var (pv 1))) (blkOk_by (N := n_L_some) (sc := defScope s_L_some) (by decide +kernel)) (fun _ _ _ _ _ => (qv_name (i := 3) sc_L_some.nd rfl (.inl rfl) (by decide))) (fun _ _ _ _ _ => (qts_one (qt_eq (ru64 hr) (qe_call G_L_take gd (hr.mono (by omega)) (by rfl) (qc_r (pv 0) (qc_e (qe_var (pv 2)) qc_nil)) (apart_of (by first | decide | simp [refsOf]))) qe_int))) (fun _ _ _ _ _ => (qe_var (pv 3))))) qb_nil)))), fun ss κ h => ?_⟩
  obtain ⟨n, xs, often, rfl, hn, o0, o1, k⟩ := h
  ((conv => whnf); repeat (refine And.intro (Eq.refl _) ?_; conv => whnf))
  refine lcL_by (fun ds acc ρ => ∃ (done rest kept : List Str) (n' : Nat), xs = done ++ rest ∧ ds = rest.map PyData.str ∧ acc = kept.map PyData.str ∧ kept.Sublist done ∧ n - done.length ≤ n' ∧ ρ = [.own true (.hand n'), .val (strsL xs), .val (.int often), .un]) ?_ ?_ _ _ _ ⟨[], xs, [], n, rfl, rfl, rfl, List.Sublist.refl _, Nat.sub_le _ _, rfl⟩
  · rintro acc ρ ⟨done, rest, kept, n', e, hd, rfl, sub, hn', rfl⟩
    cases rest with
    | cons => cases hd
    | nil =>
      rw [List.append_nil] at e; subst e
      exact k kept n' sub hn'
  · rintro d ds acc ρ ⟨done, rest, kept, n', e, hd, rfl, sub, hn', rfl⟩
    cases rest with
    | nil => cases hd
    | cons x rest =>
      cases hd
      have : 0 < n' := by rw [e, List.length_append, List.length_cons] at hn; omega
      obtain ⟨n', rfl⟩ : ∃ z, n' = z + 1 := ⟨n' - 1, by omega⟩
      ((conv => whnf); repeat (refine And.intro (Eq.refl _) ?_; conv => whnf))
      refine ⟨o0, o1, fun y y0 y1 => ?_⟩
      have nx : n - (done ++ [x]).length ≤ n' := by rw [List.length_append, List.length_singleton]; omega
      have ee : xs = (done ++ [x]) ++ rest := by rw [e, List.append_assoc]; rfl
      by_cases h0 : y = 0
      · subst h0
        ((conv => whnf); repeat (refine And.intro (Eq.refl _) ?_; conv => whnf))
        exact ⟨done ++ [x], rest, kept ++ [x], n', ee, rfl, by rw [List.map_append]; rfl, sub.append (List.Sublist.refl _), nx, rfl⟩
      · ((conv => whnf); repeat (refine And.intro (Eq.refl _) ?_; conv => whnf))
        rw [decide_eq_false h0]; ((conv => whnf); repeat (refine And.intro (Eq.refl _) ?_; conv => whnf))
        exact ⟨done ++ [x], rest, kept, n', ee, rfl, rfl, sub.trans (List.sublist_append_left _ _), nx, rfl⟩
end
end L2.Pu
namespace L2.Pu
open PySem PySem.Spec PyProof.Rows
section
variable {P : Program} {w : World} {K : PySem.W.Frag} {mg : Str → Option Value} {base : Heap} {τ : Tb}
theorem pf_L_names {f : Addr} {fd : FuncData} (F : Fun K "_law_names" "_law_names" s_L_names f fd) (hm : mg "_law_names" = some (.ref f)) (hk : PySem.W.keepIn K (.ref f) = true) (hb : Binds K fd p_L_names []) (z_len : mg "len" = none) (G_L_take : PFn τ P w K mg base 1 "_law_take" p_L_take spTake) : PFn τ P w K mg base 2 "_law_names" p_L_names spNames := by
  refine fn_ofC F hm hk hb sc_L_names (fun ss κ h => by obtain ⟨n, c, rfl, _⟩ := h; rfl) fun cdv A outer s H E code gd hr => ?_
  refine ⟨_, (qss_cons (qs_setO (i := 2) sc_L_names.nd rfl (.inl rfl) (qf_list (qa_cons qe_str (qa_cons qe_str (qa_cons qe_str (qa_cons qe_str (qa_cons qe_str (qa_cons qe_str (qa_cons qe_str (qa_cons qe_str (qa_cons qe_str (qa_cons qe_str qa_nil))))))))))))
      (qss_cons (qs_while PassesOwn.never (qt_gt (qe_len (by rfl) z_len (qb_b (pv 2) qb_nil)) (qe_var (pv 1))) (qss_one (qs_expr (qe_popAt (pv 2) (qa_cons (qe_call G_L_take gd (hr.mono (by omega)) (by rfl) (qc_r (pv 0) (qc_e (qe_len (by rfl) z_len (qb_b (pv 2) qb_nil)) qc_nil)) (apart_of (by first | decide | simp [refsOf]))) qa_nil)))))
      (qss_one (qs_ret (qe_frz (pv 2)))))), fun ss κ h => ?_⟩
  obtain ⟨n, c, rfl, hn, hc, k⟩ := h
  ((conv => whnf); repeat (refine And.intro (Eq.refl _) ?_; conv => whnf))
  refine ⟨fun m ρ => ∃ (ys : List Str) (n' : Nat), ys.Sublist ten ∧ c ≤ ys.length ∧ n - (10 - ys.length) ≤ n' ∧ m = ys.length ∧ ρ = [.own true (.hand n'), .val (.int c), .own false (.lst (ys.map PyData.str))], ⟨_, ten, n, List.Sublist.refl _, hc, Nat.sub_le _ _, rfl, rfl⟩, ?_⟩
  rintro m ρ ⟨ys, n', sub, lc, ln, rfl, rfl⟩
  have l10 : ys.length ≤ 10 := sub.length_le
  by_cases hgt : (ys.length : Int) > c
  · obtain ⟨n', rfl⟩ : ∃ z, n' = z + 1 := ⟨n' - 1, by omega⟩
    ((conv => whnf); repeat (refine And.intro (Eq.refl _) ?_; conv => whnf))
    rw [List.length_map]; dsimp only; rw [decide_eq_true hgt]; ((conv => whnf); repeat (refine And.intro (Eq.refl _) ?_; conv => whnf))
    refine ⟨fun ρ => ∃ m', m' < ys.length ∧ ∃ (ys : List Str) (n' : Nat), ys.Sublist ten ∧ c ≤ ys.length ∧ n - (10 - ys.length) ≤ n' ∧ m' = ys.length ∧ ρ = [.own true (.hand n'), .val (.int c), .own false (.lst (ys.map PyData.str))], fun ρ' h => h, ?_⟩
    ((conv => whnf); repeat (refine And.intro (Eq.refl _) ?_; conv => whnf))
    rw [List.length_map]
    refine ⟨by omega, by omega, fun x x0 x1 => ?_⟩
    ((conv => whnf); repeat (refine And.intro (Eq.refl _) ?_; conv => whnf))
    refine ⟨⟨x0, by omega⟩, ?_⟩
    have lt : x.toNat < ys.length := by omega
    rw [List.getElem?_map, List.getElem?_eq_getElem lt]
    refine ⟨_, ?_, ys.eraseIdx x.toNat, n', (List.eraseIdx_sublist _ _).trans sub, ?_, ?_, rfl, ?_⟩
    · rw [List.length_eraseIdx_of_lt lt]; omega
    · rw [List.length_eraseIdx_of_lt lt]; omega
    · rw [List.length_eraseIdx_of_lt lt]; omega
    · rw [← map_erase]; rfl
  · ((conv => whnf); repeat (refine And.intro (Eq.refl _) ?_; conv => whnf))
    rw [List.length_map]; dsimp only; rw [decide_eq_false hgt]; ((conv => whnf); repeat (refine And.intro (Eq.refl _) ?_; conv => whnf))
    exact k ys n' sub (by omega) (by omega)
end
end L2.Pu

set_option Elab.async false
set_option linter.all false
set_option maxRecDepth 100000
set_option maxHeartbeats 4000000
namespace L2.Pu
open PySem PySem.Spec PyProof.Rows
section
variable {P : Program} {w : World} {K : PySem.W.Frag} {mg : Str → Option Value} {base : Heap} {τ : Tb}
theorem pf_is_name {f : Addr} {fd : FuncData} (F : Fun K "is_name" "is_name" s_is_name f fd) (hm : mg "is_name" = some (.ref f)) (hk : PySem.W.keepIn K (.ref f) = true) (hb : Binds K fd p_is_name []) (z_all : mg "all" = none) (z_isinstance : mg "isinstance" = none) (z_len : mg "len" = none) (z_str : mg "str" = none) {t_LETTERS : Tok} (m_LETTERS : mg "LETTERS" = some (.str "abcdefghijklmnopqrstuvwxyz" t_LETTERS)) {t_LONGEST_NAME : Tok} (m_LONGEST_NAME : mg "LONGEST_NAME" = some (.int 8 t_LONGEST_NAME)) : PFn τ P w K mg base 1 "is_name" p_is_name spIsName := by
  refine fn_ofC F hm hk hb sc_is_name (fun ss κ h => by obtain ⟨m, rfl, _⟩ := h; rfl) fun cdv A outer s H E code gd hr => ?_
  refine ⟨_, (qss_cons (qs_if (qw_or (qt_not (qt_val (qe_isi (T := "str") (.inl rfl) (by rfl) z_isinstance (qe_var (pv 0)) (pe_bltn (v := .ty "str") (u := .type "str") (by rfl) z_str (by decide +kernel) rfl)))) (qw_or1 (qt_not (qt_chainLL qe_int (qe_len (by rfl) z_len (qb_e (qe_var (pv 0)) qb_nil)) (qe_glob (x := "") (pe_glob (v := .int 8) (by rfl) m_LONGEST_NAME ⟨_, rfl⟩) (fun _ => .int _)))))).pt (qss_one (qs_ret qe_bl)) qss_nil)
      (qss_one (qs_ret (qe_all rfl (by rfl) z_all (qb_e (qe_of (qf_lc (own := [("letter", 1)]) rfl sc_is_name.nd (qi_any (qe_var (pv 0))) (blkOk_by (N := n_is_name) (sc := defScope s_is_name) (by decide +kernel)) (fun _ _ _ _ _ => (qv_name (i := 1) sc_is_name.nd rfl (.inl rfl) (by decide))) (fun _ _ _ _ _ => qts_nil) (fun _ _ _ _ _ => (qe_in (ru65 hr) (qe_var (pv 1)) (qe_glob (x := "") (pe_glob (v := .str "abcdefghijklmnopqrstuvwxyz") (by rfl) m_LETTERS ⟨_, rfl⟩) (fun _ => .str _)))))) qb_nil))))), fun ss κ h => ?_⟩
  obtain ⟨d, rfl, sn, k⟩ := h
  cases d with
  | str x =>
    have few := sn.few x rfl
    ((conv => whnf); repeat (refine And.intro (Eq.refl _) ?_; conv => whnf))
    refine ⟨few, ?_⟩
    ((conv => whnf); repeat (refine And.intro (Eq.refl _) ?_; conv => whnf))
    by_cases h1 : (1 : Int) ≤ (x.length : Int)
    · try dsimp only
      rw [decide_eq_true h1]
      ((conv => whnf); repeat (refine And.intro (Eq.refl _) ?_; conv => whnf))
      by_cases h2 : (x.length : Int) ≤ 8
      · try dsimp only
        rw [decide_eq_true h2]
        ((conv => whnf); repeat (refine And.intro (Eq.refl _) ?_; conv => whnf))
        refine ⟨few, ?_⟩
        refine lcL_map (i := 1) (ρ := [.val (.str x), .un]) (fun d => .bool (signB d)) (fun d => rfl) (fun d hd k => ?_) ?_
        · unfold signs at hd
          obtain ⟨c, _, rfl⟩ := List.mem_map.mp hd
          exact fun h => h
        · rw [signs_map]
          ((conv => whnf); repeat (refine And.intro (Eq.refl _) ?_; conv => whnf))
          refine ⟨_, rfl, ?_⟩
          have e : nameB (.str x) = (x.cps.toList.map fun c => decide (c ∈ lettersS.cps.toList)).all id := by
            show nameS x = _
            unfold nameS
            rw [decide_eq_true (by omega : 1 ≤ x.length), decide_eq_true (by omega : x.length ≤ 8), List.all_map]; rfl
          rw [e] at k
          exact k
      · try dsimp only
        rw [decide_eq_false h2]
        ((conv => whnf); repeat (refine And.intro (Eq.refl _) ?_; conv => whnf))
        have e : nameB (.str x) = false := by
          show nameS x = _
          unfold nameS
          rw [decide_eq_false (by omega : ¬ x.length ≤ 8), Bool.and_false, Bool.false_and]
        rw [e] at k
        exact k
    · try dsimp only
      rw [decide_eq_false h1]
      ((conv => whnf); repeat (refine And.intro (Eq.refl _) ?_; conv => whnf))
      have e : nameB (.str x) = false := by
        show nameS x = _
        unfold nameS
        rw [decide_eq_false (by omega : ¬ 1 ≤ x.length)]; rfl
      rw [e] at k
      exact k
  | dict es =>
    cases es with
    | nil => ((conv => whnf); repeat (refine And.intro (Eq.refl _) ?_; conv => whnf)); exact k
    | cons e r =>
      obtain ⟨a, b⟩ := e
      cases a with
      | tuple t => exact absurd rfl (sn.nd t b r)
      | _ => ((conv => whnf); repeat (refine And.intro (Eq.refl _) ?_; conv => whnf)); exact k
  | _ => ((conv => whnf); repeat (refine And.intro (Eq.refl _) ?_; conv => whnf)); exact k
end
end L2.Pu

set_option Elab.async false
set_option linter.all false
set_option maxRecDepth 100000
set_option maxHeartbeats 4000000
namespace L2.Pu
open PySem PySem.Spec PyProof.Rows
section
variable {P : Program} {w : World} {K : PySem.W.Frag} {mg : Str → Option Value} {base : Heap} {τ : Tb}
def thC (n k : Nat) (d : PyData) : Bool := d.showable && (d.leavesShort 40 && (noTK d && (decide (d.bulk ≤ n) && decide (d.depth ≤ k))))
theorem thC_th {n k : Nat} {d : PyData} (h : thC n k d = true) : Th d n k := by
  unfold thC at h
  simp only [Bool.and_eq_true, decide_eq_true_eq] at h
  exact ⟨h.1, h.2.1, h.2.2.1, h.2.2.2.1, h.2.2.2.2⟩
theorem all_th {n k : Nat} {ds : List PyData} (h : ds.all (thC n k) = true) : ∀ d ∈ ds, Th d n k := fun d hd => thC_th (List.all_eq_true.mp h d hd)
theorem cut_sub (ds : List PyData) (lo hi : Option Int) : (cutD ds lo hi).Sublist ds := by
  unfold cutD
  exact (List.take_sublist _ _).trans (List.drop_sublist _ _)
def spOdd : PSp := fun ss κ => ∃ n : Nat, ss = [.own true (.hand n)] ∧ 30 ≤ n ∧ ∀ (d : PyData) (n' : Nat), Th d 200 25 → n - 30 ≤ n' → κ d [.own true (.hand n')]
def spBent (D : Nat) : PSp := fun ss κ => ∃ (n N k0 : Nat) (d : PyData), ss = [.own true (.hand n), .val d, .val (.int D)] ∧ Th d N k0 ∧ Shp d ∧ N ≤ 10000 ∧ k0 ≤ 20 ∧ 40 * (D + 1) ≤ n ∧ ∀ (e : PyData) (n' : Nat), Th e ((2 * N + 300) * (D + 1)) (k0 + 26) → n - 40 * (D + 1) ≤ n' → κ e [.own true (.hand n'), .un, .un]
theorem shp_mem {ds : List PyData} (h : Shp (.tuple ds)) {d : PyData} (hd : d ∈ ds) : Shp d := by
  have h : SeqAt.shaped (.tuple ds) = true := h
  unfold SeqAt.shaped at h
  rw [Bool.and_eq_true] at h
  have h1 : PyData.canLayAll0 ds = true := by simpa only [PyData.canLay0] using h.1
  have h2 : PyData.depthAll ds ≤ 63 := by have := of_decide_eq_true h.2; simp only [PyData.depth] at this; omega
  have : ∀ {l : List PyData}, PyData.canLayAll0 l = true → PyData.depthAll l ≤ 63 → d ∈ l → PyData.canLay0 d = true ∧ PyData.depth d ≤ 63 := by
    intro l
    induction l with
    | nil => intro _ _ z; cases z
    | cons e l ih =>
      intro a b z
      simp only [PyData.canLayAll0, Bool.and_eq_true] at a
      simp only [PyData.depthAll, Nat.max_le] at b
      rcases List.mem_cons.mp z with rfl | z
      · exact ⟨a.1, b.1⟩
      · exact ih a.2 b.2 z
  obtain ⟨a, b⟩ := this h1 h2 hd
  show SeqAt.shaped d = true
  unfold SeqAt.shaped
  rw [Bool.and_eq_true]
  exact ⟨a, decide_eq_true (by omega)⟩
end
end L2.Pu

set_option Elab.async false
set_option linter.all false
set_option maxRecDepth 100000
set_option maxHeartbeats 4000000
namespace L2.Pu
open PySem PySem.Spec PyProof.Rows
section
variable {P : Program} {w : World} {K : PySem.W.Frag} {mg : Str → Option Value} {base : Heap} {τ : Tb}
theorem qt_chainll {X : Cx} {a b c : Expr} {qa qb qc : QE} {pos : Pos} (ha : PQ τ X a qa) (hb : PQ τ X b qb) (hc : PQ τ X c qc) : PQT τ X (.Compare a [.Lt, .Lt] [b, c] pos) (qB (qChain (fun i j => decide (i < j)) (fun i j => decide (i < j)) qa qb qc)) := pt_imp _ (pt_chain op_lt op_lt ha hb hc (nomark c)) (test_imp chain_imp)
def tupB (n : Int) : PyData → Bool
  | .tuple ds => decide ((ds.length : Int) = n)
  | _ => false
def spTupOfA : PSp := fun ss κ => ∃ (n : Int) (d : PyData), ss = [.val (.int n), .val d] ∧ Seen1 d ∧ κ (.bool (tupB n d)) [.un, .un]
def twoD (p : PyData × PyData) : PyData := .tuple [p.1, p.2]
def spFeaturesInA : PSp := fun ss κ => ∃ ps : List (PyData × PyData), ss = [.val (.tuple (ps.map twoD))] ∧ κ (.tuple (ps.map (·.1))) [.un]
open Classical in
noncomputable def canB (fs : List Str) (f : Str) (d : PyData) : Bool := decide (∃ r : List Str, d = tupS r ∧ (∀ x ∈ r, nameS x = true) ∧ r.Pairwise ltS ∧ ∀ x ∈ r, x ∈ fs ∧ x ≠ f)
def spCan : PSp := fun ss κ => ∃ (fs : List Str) (f : Str) (d : PyData), ss = [.val (tupS fs), .val (.str f), .val d] ∧ SeenT d ∧ κ (.bool (canB fs f d)) [.un, .un, .un]
end
end L2.Pu

set_option Elab.async false
set_option linter.all false
set_option maxRecDepth 100000
set_option maxHeartbeats 4000000
namespace L2.Pu
open PySem PySem.Spec PyProof.Rows
section
variable {P : Program} {w : World} {K : PySem.W.Frag} {mg : Str → Option Value} {base : Heap} {τ : Tb}
def qfSetOfW (q : QE) : QF := fun ρ κ => q ρ fun d ρ1 => ∃ ts, textsD d ts ∧ ts.length < 4095 ∧ κ (.set (Fu.allL ts)) ρ1
theorem qf_setOfW {X : Cx} {pos p : Pos} {e : Expr} {q : QE} (hc : X.calm = true) (hg : Gl X "set") (hm : X.mg "set" = none) (h : PQ τ X e q) (he : starEach [e] X.env = (false, eval e X.env) :: starEach [] X.env := by rfl) (hpl : (backTo pos (starEach [] X.env)).any (·.1) = false := by rfl) :
    PQF τ X (.Call (.Name "set" p) [e] [] pos) (qfSetOfW q) := by
  refine pe_imp _ (pe_callTy (cr_setOf hc) hg hm (by decide +kernel) (pa_cons h pa_nil he) (by decide) (by decide) he hpl) ?_
  rintro σ H Q ⟨F, ρ, C, R, κ, k, z⟩
  refine ⟨F, ρ, C, R, _, k, fun d ρ1 v C1 H1 k1 s1 R1 d1 => ?_⟩
  obtain ⟨ts, td, hl, k1⟩ := k1
  have sb : ts.length + 1 < scanBound := by unfold scanBound; omega
  rcases td with rfl | rfl
  · cases d1 with
    | @lst a xs ds ea na ha =>
      rw [strs_of ha] at ea
      refine .inl ⟨a, ts, rfl, SqL.of (R1.sub _ _ ea), sb, fun p np => ?_⟩
      exact z _ _ _ _ _ k1 s1 (R1.layH np) upd_same (R1.new_fresh np) (R1.ref_ne np)
  · cases d1 with
    | @tup a oa xs ds ea na ha =>
      rw [strs_of ha] at ea
      refine .inr ⟨a, ts, rfl, sqF (R1.sub _ _ ea), sb, fun p np => ?_⟩
      exact z _ _ _ _ _ k1 s1 (R1.layH np) upd_same (R1.new_fresh np) (R1.ref_ne np)
theorem name_lay {x : Str} (h : nameS x = true) : PyData.canLay0 (.str x) = true := by
  unfold nameS at h
  simp only [Bool.and_eq_true, List.all_eq_true, decide_eq_true_eq] at h
  have l : ∀ c ∈ lettersS.cps.toList, c < 0x110000 := by decide +kernel
  rw [PyData.canLay0]
  unfold PyData.strOk
  rw [← Array.all_toList, List.all_eq_true]
  exact fun c hc => decide_eq_true (l c (h.2 c hc))
theorem okS_names {r : List Str} (h : ∀ x ∈ r, nameS x = true) : okS r := fun x hx => name_lay (h x hx)
theorem okS_sorted {r : List Str} (h : ∀ x ∈ r, nameS x = true) : okS (sortS (Fu.allL r)) := fun x hx => name_lay (h x ((Fu.mem_allL r x).mp (mem_sortS.mp hx)))
theorem asc_sorted (r : List Str) : (r = sortS (Fu.allL r)) ↔ r.Pairwise ltS := by
  have nd : (sortS (Fu.allL r)).Nodup := (sortS_perm _).nodup_iff.mpr (allL_nodup _)
  constructor
  · intro e
    rw [e]
    exact (sortS_pair (Fu.allL r)).imp₂ (fun a b h1 h2 => ⟨h1, h2⟩) nd
  · intro h
    have n2 : r.Nodup := h.imp fun h => h.2
    have p : (Fu.allL r).Perm r := (List.perm_ext_iff_of_nodup (allL_nodup _) n2).mpr fun x => Fu.mem_allL r x
    rw [sortS_congr p, sortS_id (h.imp fun h => h.1)]
theorem bulk_len : ∀ {r : List Str}, (∀ x ∈ r, nameS x = true) → 2 * r.length ≤ PyData.bulkAll (r.map PyData.str)
  | [], _ => Nat.zero_le _
  | x :: r, h => by
    have := bulk_len fun y hy => h y (List.mem_cons_of_mem _ hy)
    have h1 := h x List.mem_cons_self
    unfold nameS at h1
    simp only [Bool.and_eq_true, decide_eq_true_eq] at h1
    have : 1 ≤ x.cps.size := h1.1.1
    rw [List.map_cons, PyData.bulkAll, List.length_cons, PyData.bulk]
    omega
theorem allL_few {r ns : List Str} (h : ∀ x ∈ r, x ∈ ns) : (Fu.allL r).length ≤ ns.length :=
  nodup_le (allL_nodup r) (fun x hx => h x ((Fu.mem_allL r x).mp hx))
open Classical in
noncomputable def someB (ns : List Str) (d : PyData) : Bool := decide (∃ r : List Str, d = tupS r ∧ r.Pairwise ltS ∧ ∀ x ∈ r, x ∈ ns)
open Classical in
theorem someB_noT {ns : List Str} {d : PyData} (h : ∀ ds, d ≠ .tuple ds) : someB ns d = false := by
  unfold someB
  exact decide_eq_false fun ⟨r, e, _⟩ => h _ e
def isIn (ns : List Str) : PyData → Bool
  | .str x => decide (x ∈ ns)
  | _ => false
theorem strs_in {ns : List Str} : ∀ {ds : List PyData}, (∀ d ∈ ds, isIn ns d = true) → ∃ r : List Str, ds = r.map PyData.str ∧ ∀ x ∈ r, x ∈ ns
  | [], _ => ⟨[], rfl, (fun _ z => nomatch z)⟩
  | d :: ds, h => by
    obtain ⟨r, e, hr⟩ := strs_in fun q hq => h q (List.mem_cons_of_mem _ hq)
    have h1 := h d List.mem_cons_self
    cases d with
    | str x =>
      refine ⟨x :: r, by rw [e]; rfl, fun y hy => ?_⟩
      rcases List.mem_cons.mp hy with rfl | hy
      · exact of_decide_eq_true h1
      · exact hr y hy
    | _ => cases h1
def spSomeOf : PSp := fun ss κ => ∃ (ns : List Str) (d : PyData) (n k : Nat), ss = [.val (strsL ns), .val d] ∧ Th d n k ∧ n ≤ 1000000 ∧ (n ≤ 8000 ∨ ∀ ds, d = .tuple ds → ds.length < 4095) ∧ (∀ x ∈ ns, nameS x = true) ∧ ns.length ≤ 10 ∧ κ (.bool (someB ns d)) [.un, .un]
end
end L2.Pu

set_option Elab.async false
set_option linter.all false
set_option maxRecDepth 100000
set_option maxHeartbeats 4000000
namespace L2.Pu
open PySem PySem.Spec PyProof.Rows
section
variable {P : Program} {w : World} {K : PySem.W.Frag} {mg : Str → Option Value} {base : Heap} {τ : Tb}
def pq (q : Str × PyData) : PyData := .tuple [.str q.1, q.2]
open Classical in
noncomputable def manB (d : PyData) : Bool := decide (∃ m : Man, d = manD m ∧ m.length ≤ 8 ∧ (∀ x ∈ nms m, nameS x = true) ∧ (nms m).Pairwise ltS ∧ ∀ r ∈ m, canB (nms m) r.1 (tupS r.2) = true)
theorem pq_man : ∀ {qs : List (Str × PyData)}, (∀ q ∈ qs, ∃ r : List Str, q.2 = tupS r) → ∃ m : Man, qs = m.map fun r => (r.1, tupS r.2)
  | [], _ => ⟨[], rfl⟩
  | (x, d) :: qs, h => by
    obtain ⟨r, e⟩ := h _ List.mem_cons_self
    obtain ⟨m, e2⟩ := pq_man fun q hq => h q (List.mem_cons_of_mem _ hq)
    cases e
    exact ⟨(x, r) :: m, by rw [List.map_cons, ← e2]; rfl⟩
theorem pq_rows (m : Man) : (m.map fun r => (r.1, tupS r.2)).map pq = m.map rowD := by rw [List.map_map]; rfl
theorem pq_inj : ∀ {a b : List (Str × PyData)}, a.map pq = b.map pq → a = b
  | [], [], _ => rfl
  | [], _ :: _, h => by cases h
  | _ :: _, [], h => by cases h
  | (x, d) :: a, (y, e) :: b, h => by
    rw [List.map_cons, List.map_cons, List.cons.injEq] at h
    obtain ⟨h1, h2⟩ := h
    simp only [pq, PyData.tuple.injEq, List.cons.injEq, PyData.str.injEq, and_true] at h1
    rw [h1.1, h1.2, pq_inj h2]
open Classical in
theorem manB_of {qs : List (Str × PyData)} (hl : qs.length ≤ 8) (hn : ∀ x ∈ qs.map (·.1), nameS x = true) (ha : (qs.map (·.1)).Pairwise ltS) : manB (.tuple (qs.map pq)) = (qs.map fun q => canB (qs.map (·.1)) q.1 q.2).all id := by
  rw [Bool.eq_iff_iff]
  unfold manB
  rw [decide_eq_true_iff, List.all_map, List.all_eq_true]
  constructor
  · rintro ⟨m, e, _, _, _, h⟩
    have e : qs.map pq = m.map rowD := by simpa only [manD, PyData.tuple.injEq] using e
    rw [← pq_rows] at e
    have e := pq_inj e
    subst e
    intro q hq
    obtain ⟨r, hr, rfl⟩ := List.mem_map.mp hq
    have := h r hr
    rw [List.map_map]
    exact this
  · intro h
    have h2 : ∀ q ∈ qs, ∃ r : List Str, q.2 = tupS r := fun q hq => by
      have := h q hq
      have : canB (qs.map (·.1)) q.1 q.2 = true := this
      unfold canB at this
      rw [decide_eq_true_iff] at this
      obtain ⟨r, e, _⟩ := this
      exact ⟨r, e⟩
    obtain ⟨m, rfl⟩ := pq_man h2
    have en : (m.map fun r => (r.1, tupS r.2)).map (·.1) = nms m := by rw [List.map_map]; rfl
    rw [en] at hn ha h
    refine ⟨m, by rw [pq_rows]; rfl, by rw [List.length_map] at hl; exact hl, hn, ha, fun r hr => ?_⟩
    exact h _ (List.mem_map.mpr ⟨r, hr, rfl⟩)
theorem man_pq {d : PyData} {m : Man} (e : d = manD m) : d = .tuple ((m.map fun r => (r.1, tupS r.2)).map pq) := by rw [pq_rows]; exact e
open Classical in
theorem manB_not {d : PyData} (h : ∀ qs : List (Str × PyData), d = .tuple (qs.map pq) → qs.length ≤ 8 → (∀ x ∈ qs.map (·.1), nameS x = true) → (qs.map (·.1)).Pairwise ltS → False) : manB d = false := by
  unfold manB
  refine decide_eq_false ?_
  rintro ⟨m, e, l, a, b, _⟩
  have en : (m.map fun r => (r.1, tupS r.2)).map (·.1) = nms m := by rw [List.map_map]; rfl
  exact h _ (man_pq e) (by rw [List.length_map]; exact l) (by rw [en]; exact a) (by rw [en]; exact b)
theorem two_of : ∀ {ds : List PyData}, (∀ d ∈ ds, tupB 2 d = true) → ∃ ps : List (PyData × PyData), ds = ps.map twoD
  | [], _ => ⟨[], rfl⟩
  | d :: ds, h => by
    have h1 := h d List.mem_cons_self
    obtain ⟨ps, e⟩ := two_of fun q hq => h q (List.mem_cons_of_mem _ hq)
    cases d with
    | tuple l =>
      have h1 : l.length = 2 := by
        have := of_decide_eq_true h1
        omega
      match l, h1 with
      | [a, b], _ => exact ⟨(a, b) :: ps, by rw [e]; rfl⟩
    | _ => cases h1
theorem str_of : ∀ {ps : List (PyData × PyData)} {r : List Str}, ps.map (·.1) = r.map PyData.str → ∃ qs : List (Str × PyData), ps = qs.map (fun q => (.str q.1, q.2)) ∧ qs.map (·.1) = r
  | [], [], _ => ⟨[], rfl, rfl⟩
  | [], _ :: _, h => by cases h
  | _ :: _, [], h => by cases h
  | (a, b) :: ps, x :: r, h => by
    rw [List.map_cons, List.map_cons, List.cons.injEq] at h
    obtain ⟨h1, h2⟩ := h
    obtain ⟨qs, e1, e2⟩ := str_of h2
    cases h1
    exact ⟨(x, b) :: qs, by rw [e1]; rfl, by rw [List.map_cons, e2]⟩
theorem two_pq (qs : List (Str × PyData)) : (qs.map fun q => (PyData.str q.1, q.2)).map twoD = qs.map pq := by rw [List.map_map]; rfl
def spIsMan : PSp := fun ss κ => ∃ (d : PyData) (n k : Nat), ss = [.val d] ∧ Th d n k ∧ n ≤ 1000000 ∧ κ (.bool (manB d)) [.un]
theorem manB_noT {d : PyData} (h : ∀ ds, d ≠ .tuple ds) : manB d = false := manB_not fun qs e _ _ _ => h _ e
end
end L2.Pu

set_option Elab.async false
set_option linter.all false
set_option maxRecDepth 100000
set_option maxHeartbeats 4000000
namespace L2.Pu
open PySem PySem.Spec PyProof.Rows
section
variable {P : Program} {w : World} {K : PySem.W.Frag} {mg : Str → Option Value} {base : Heap} {τ : Tb}
/-- name += a number -/
def qAugI (i : Nat) (q : QE) : QS := fun κ ρ => match ρ[i]? with
  | some (.val (.int a)) => q ρ fun d ρ1 => match d with
    | .int b => κ.nx (ρ1.set i (.val (.int (a + b))))
    | _ => False
  | _ => False
theorem qs_augI {X : Cx} {i : Nat} {x : Str} {e : Expr} {q : QE} {pos pos' : Pos} (hN : X.N.Nodup) (hi : X.N[i]? = some x) (hx : Loc X.env.scope x) (h : PQ τ X e q) (hf : X.fn x = true ∨ X.env.scope.names.lookup x = some .local := by first | exact .inl rfl | exact .inr rfl | assumption) :
    PQS τ X (.AugAssign (.Name x pos') .Add e pos) (qAugI i q) := by
  refine ps_imp _ (ps_aug hN hi hx h ip_add hf) ?_
  rintro D σ H ⟨F, ρ, C, R, κ, k, z, _⟩
  unfold qAugI at k
  split at k
  · rename_i a ha
    obtain ⟨v, hv, dv⟩ := R.val ha
    cases dv
    refine ⟨.int a, hv, F, ρ, C, R, _, k, fun d ρ1 u C1 H1 k1 s1 R1 d1 => ?_⟩
    cases d1 with
    | int b => exact ⟨a, b, rfl, rfl, z _ _ _ _ k1 s1 (R1.setVal (.int (a + b)))⟩
    | _ => exact k1.elim
  · exact k.elim
def outB : PyData → Bool
  | .tuple (.str w :: rest) => if w = "feature" then (decide (rest.length = 1) && nameB (rest.headD .none)) else if w = "not" then decide (rest.length = 1) else decide (w = "all") || decide (w = "any")
  | _ => false
def partB : PyData → List PyData
  | .tuple (.str w :: rest) => if w = "feature" then [] else rest
  | _ => []
theorem out_eq (x : Str) (rest : List PyData) : outB (.tuple (.str x :: rest)) = if x = "feature" then (decide (rest.length = 1) && nameB (rest.headD .none)) else if x = "not" then decide (rest.length = 1) else decide (x = "all") || decide (x = "any") := rfl
theorem part_eq (x : Str) (rest : List PyData) : partB (.tuple (.str x :: rest)) = if x = "feature" then [] else rest := rfl
def spOuterA : PSp := fun ss κ => ∃ (d : PyData) (n k : Nat), ss = [.val d] ∧ Th d n k ∧ n ≤ 1000000 ∧ κ (.bool (outB d)) [.un]
theorem pf_has_outer_form {f : Addr} {fd : FuncData} (F : Fun K "has_outer_form" "has_outer_form" s_has_outer_form f fd) (hm : mg "has_outer_form" = some (.ref f)) (hk : PySem.W.keepIn K (.ref f) = true) (hb : Binds K fd p_has_outer_form []) (z_isinstance : mg "isinstance" = none) (z_len : mg "len" = none) (z_str : mg "str" = none) (z_tuple : mg "tuple" = none) (G_is_name : PFn τ P w K mg base 1 "is_name" p_is_name spIsName) : PFn τ P w K mg base 2 "has_outer_form" p_has_outer_form spOuterA := by
  refine fn_ofC F hm hk hb sc_has_outer_form (fun ss κ h => by obtain ⟨d, n, k, rfl, _⟩ := h; rfl) fun cdv A outer s H E code gd hr => ?_
  refine ⟨_, (qss_cons (qs_if (qw_or (qt_not (qt_val (qe_isi (T := "tuple") (.inr (.inl rfl)) (by rfl) z_isinstance (qe_var (pv 0)) (pe_bltn (v := .ty "tuple") (u := .type "tuple") (by rfl) z_tuple (by decide +kernel) rfl)))) (qw_or (qt_eq (ru64 hr) (qe_len (by rfl) z_len (qb_e (qe_var (pv 0)) qb_nil)) qe_int) (qw_or1 (qt_not (qt_val (qe_isi (T := "str") (.inl rfl) (by rfl) z_isinstance (qe_ix (qe_var (pv 0)) qe_int) (pe_bltn (v := .ty "str") (u := .type "str") (by rfl) z_str (by decide +kernel) rfl))))))).pt (qss_one (qs_ret qe_bl)) qss_nil)
      (qss_cons (qs_set (i := 1) sc_has_outer_form.nd rfl (.inl rfl) (qe_ix (qe_var (pv 0)) qe_int))
      (qss_cons (qs_if (qt_eq (ru64 hr) (qe_var (pv 1)) qe_str) (qss_one (qs_ret (qe_and (qe_eq (ru64 hr) (qe_len (by rfl) z_len (qb_e (qe_var (pv 0)) qb_nil)) qe_int) (qe_one (qe_call G_is_name gd (hr.mono (by omega)) (by rfl) (qc_e (qe_ix (qe_var (pv 0)) qe_int) qc_nil) (apart_of (by first | decide | simp [refsOf]))))))) qss_nil)
      (qss_cons (qs_if (qt_eq (ru64 hr) (qe_var (pv 1)) qe_str) (qss_one (qs_ret (qe_eq (ru64 hr) (qe_len (by rfl) z_len (qb_e (qe_var (pv 0)) qb_nil)) qe_int))) qss_nil)
      (qss_one (qs_ret (qe_in (ru65 hr) (qe_var (pv 1)) (qe_tup (qa_cons qe_str (qa_cons qe_str qa_nil)))))))))), fun ss κ h => ?_⟩
  obtain ⟨d, n, k0, rfl, td, hn, k⟩ := h
  have sn := td.seen (by omega)
  cases d with
  | tuple ds =>
    obtain ⟨k1, rfl, aT⟩ := th_tup_inv td
    cases ds with
    | nil => ((conv => whnf); repeat (refine And.intro (Eq.refl _) ?_; conv => whnf)); exact k
    | cons e rest =>
      have te := aT.mem List.mem_cons_self
      have se := te.seen (by omega)
      cases e with
      | str x =>
        ((conv => whnf); repeat (refine And.intro (Eq.refl _) ?_; conv => whnf))
        rw [at0]
        ((conv => whnf); repeat (refine And.intro (Eq.refl _) ?_; conv => whnf))
        rw [at0]
        ((conv => whnf); repeat (refine And.intro (Eq.refl _) ?_; conv => whnf))
        by_cases h1 : x = "feature"
        · subst h1
          try rw [decide_eq_true rfl]
          ((conv => whnf); repeat (refine And.intro (Eq.refl _) ?_; conv => whnf))
          match rest with
          | [] => ((conv => whnf); repeat (refine And.intro (Eq.refl _) ?_; conv => whnf)); exact k
          | [b] =>
            ((conv => whnf); repeat (refine And.intro (Eq.refl _) ?_; conv => whnf))
            refine ⟨b, rfl, (aT.mem (List.mem_cons_of_mem _ List.mem_cons_self)).seen (by omega), ?_⟩
            exact k
          | b :: c :: l => ((conv => whnf); repeat (refine And.intro (Eq.refl _) ?_; conv => whnf)); exact k
        · rw [decide_eq_false h1]
          ((conv => whnf); repeat (refine And.intro (Eq.refl _) ?_; conv => whnf))
          by_cases h2 : x = "not"
          · subst h2
            try rw [decide_eq_true rfl]
            ((conv => whnf); repeat (refine And.intro (Eq.refl _) ?_; conv => whnf))
            match rest with
            | [] => exact k
            | [b] => exact k
            | b :: c :: l => exact k
          · rw [decide_eq_false h2]
            ((conv => whnf); repeat (refine And.intro (Eq.refl _) ?_; conv => whnf))
            refine ⟨.inl rfl, ?_⟩
            rw [show ([PyData.str "all", PyData.str "any"] : List PyData) = (["all", "any"] : List Str).map PyData.str from rfl, any_eqv_strs]
            have e : outB (.tuple (.str x :: rest)) = decide (x ∈ (["all", "any"] : List Str)) := by
              rw [out_eq, if_neg h1, if_neg h2, Bool.eq_iff_iff, Bool.or_eq_true, decide_eq_true_iff, decide_eq_true_iff, decide_eq_true_iff, List.mem_cons, List.mem_singleton]
            rw [e] at k
            exact k
      | dict es =>
        cases es with
        | nil => ((conv => whnf); repeat (refine And.intro (Eq.refl _) ?_; conv => whnf)); rw [at0]; ((conv => whnf); repeat (refine And.intro (Eq.refl _) ?_; conv => whnf)); exact k
        | cons e r =>
          obtain ⟨a, b⟩ := e
          cases a with
          | tuple t => exact absurd rfl (se.nd t b r)
          | _ => ((conv => whnf); repeat (refine And.intro (Eq.refl _) ?_; conv => whnf)); rw [at0]; ((conv => whnf); repeat (refine And.intro (Eq.refl _) ?_; conv => whnf)); exact k
      | _ => ((conv => whnf); repeat (refine And.intro (Eq.refl _) ?_; conv => whnf)); rw [at0]; ((conv => whnf); repeat (refine And.intro (Eq.refl _) ?_; conv => whnf)); exact k
  | dict es =>
    cases es with
    | nil => ((conv => whnf); repeat (refine And.intro (Eq.refl _) ?_; conv => whnf)); exact k
    | cons e r =>
      obtain ⟨a, b⟩ := e
      cases a with
      | tuple t => exact absurd rfl (sn.nd t b r)
      | _ => ((conv => whnf); repeat (refine And.intro (Eq.refl _) ?_; conv => whnf)); exact k
  | _ => ((conv => whnf); repeat (refine And.intro (Eq.refl _) ?_; conv => whnf)); exact k
def spPartA : PSp := fun ss κ => ∃ (d : PyData), ss = [.val d] ∧ outB d = true ∧ κ (.tuple (partB d)) [.un]
theorem out_shape {d : PyData} (h : outB d = true) : ∃ (x : Str) (rest : List PyData), d = .tuple (.str x :: rest) := by
  cases d with
  | tuple ds =>
    cases ds with
    | nil => cases h
    | cons e rest =>
      cases e with
      | str x => exact ⟨x, rest, rfl⟩
      | _ => cases h
  | _ => cases h
theorem pf_parts_ofA {f : Addr} {fd : FuncData} (F : Fun K "parts_of" "parts_of" s_parts_of f fd) (hm : mg "parts_of" = some (.ref f)) (hk : PySem.W.keepIn K (.ref f) = true) (hb : Binds K fd p_parts_of []) : PFn τ P w K mg base 1 "parts_of" p_parts_of spPartA := by
  refine fn_ofC F hm hk hb sc_parts_of (fun ss κ h => by obtain ⟨d, rfl, _⟩ := h; rfl) fun cdv A outer s H E code gd hr => ?_
  refine ⟨_, (qss_cons (qs_if (qt_eq (ru64 hr) (qe_ix (qe_var (pv 0)) qe_int) qe_str) (qss_one (qs_ret (qe_tup qa_nil))) qss_nil)
      (qss_one (qs_ret (qe_slice (qe_var (pv 0)) (qo_some qe_int) qo_none)))), fun ss κ h => ?_⟩
  obtain ⟨d, rfl, ho, k⟩ := h
  obtain ⟨x, rest, rfl⟩ := out_shape ho
  ((conv => whnf); repeat (refine And.intro (Eq.refl _) ?_; conv => whnf))
  rw [at0]
  ((conv => whnf); repeat (refine And.intro (Eq.refl _) ?_; conv => whnf))
  by_cases h1 : x = "feature"
  · subst h1
    try rw [decide_eq_true rfl]
    ((conv => whnf); repeat (refine And.intro (Eq.refl _) ?_; conv => whnf))
    exact k
  · rw [decide_eq_false h1]
    ((conv => whnf); repeat (refine And.intro (Eq.refl _) ?_; conv => whnf))
    rw [cut1]
    have e : partB (.tuple (.str x :: rest)) = rest := by rw [part_eq, if_neg h1]
    rw [e] at k
    exact k
/-- how many formulas stand in it, 10000 where it is none; n levels are left -/
def cntB : Nat → PyData → Nat
  | 0, _ => 10000
  | n + 1, d => if outB d = true then 1 + ((partB d).map (cntB n)).sum else 10000
theorem cnt_pos : ∀ (n : Nat) (d : PyData), 1 ≤ cntB n d
  | 0, _ => by simp only [cntB]; decide
  | n + 1, d => by
    simp only [cntB]
    split
    · omega
    · decide
abbrev PrN := PyData × Nat
def prB (p : PrN) : PyData := .tuple [p.1, .int p.2]
def totB (ps : List PrN) : Nat := (ps.map fun p => cntB (11 - p.2) p.1).sum
theorem totB_app (a b : List PrN) : totB (a ++ b) = totB a + totB b := by unfold totB; rw [List.map_append, List.sum_append]
theorem totB_ge : ∀ ps : List PrN, ps.length ≤ totB ps
  | [] => Nat.le_refl _
  | p :: ps => by
    have := totB_ge ps
    have := cnt_pos (11 - p.2) p.1
    unfold totB at *
    rw [List.map_cons, List.sum_cons, List.length_cons]
    omega
theorem totB_map (n : Nat) (ds : List PyData) : totB (ds.map fun d => (d, n)) = (ds.map (cntB (11 - n))).sum := by
  unfold totB
  rw [List.map_map]; rfl
theorem part_th {d : PyData} {n k : Nat} (t : Th d n k) (h : outB d = true) : ∀ e ∈ partB d, Th e n k := by
  obtain ⟨x, rest, rfl⟩ := out_shape h
  obtain ⟨k1, rfl, a⟩ := th_tup_inv t
  intro e he
  rw [part_eq] at he
  split at he
  · cases he
  · exact (a.mem (List.mem_cons_of_mem _ he)).more (Nat.le_refl _) (by omega)
def spIsForm : PSp := fun ss κ => ∃ (d : PyData) (n k : Nat), ss = [.val d] ∧ Th d n k ∧ n ≤ 1000000 ∧ κ (.bool (decide (cntB 10 d ≤ 400))) [.un]
structure Wt (T nn kk : Nat) (ps : List PrN) (found : Nat) : Prop where
  sum : T + ps.length = found + totB ps
  few : ps.length ≤ found
  most : found ≤ 400
  pos : ∀ p ∈ ps, 1 ≤ p.2 ∧ p.2 ≤ 11
  th : ∀ p ∈ ps, Th p.1 nn kk
theorem pf_is_formula {f : Addr} {fd : FuncData} (F : Fun K "is_formula" "is_formula" s_is_formula f fd) (hm : mg "is_formula" = some (.ref f)) (hk : PySem.W.keepIn K (.ref f) = true) (hb : Binds K fd p_is_formula []) (z_len : mg "len" = none) {t_DEEPEST_FORMULA : Tok} (m_DEEPEST_FORMULA : mg "DEEPEST_FORMULA" = some (.int 10 t_DEEPEST_FORMULA)) {t_MOST_FORMULAS : Tok} (m_MOST_FORMULAS : mg "MOST_FORMULAS" = some (.int 400 t_MOST_FORMULAS)) (G_has_outer_form : PFn τ P w K mg base 2 "has_outer_form" p_has_outer_form spOuterA) (G_parts_of : PFn τ P w K mg base 1 "parts_of" p_parts_of spPartA) : PFn τ P w K mg base 3 "is_formula" p_is_formula spIsForm := by
  refine fn_ofC F hm hk hb sc_is_formula (fun ss κ h => by obtain ⟨d, n, k, rfl, _⟩ := h; rfl) fun cdv A outer s H E code gd hr => ?_
  refine ⟨_, (qss_cons (qs_setO (i := 1) sc_is_formula.nd rfl (.inl rfl) (qf_list (qa_cons (qe_tup (qa_cons (qe_var (pv 0)) (qa_cons qe_int qa_nil))) qa_nil)))
      (qss_cons (qs_set (i := 2) sc_is_formula.nd rfl (.inl rfl) qe_int)
      (qss_cons (qs_while PassesOwn.never (qt_truN (pv 1)) (qss_cons (qs_asg (qe_pop (pv 1)) (qg_tup rfl (qgs_cons (qg_name (i := 3) sc_is_formula.nd rfl (.inl rfl)) (qgs_cons (qg_name (i := 4) sc_is_formula.nd rfl (.inr rfl)) qgs_nil)) (glen_name (glen_name glen_nil))))
      (qss_cons (qs_if (qw_or (qt_gt (qe_var (pv 4)) (qe_glob (x := "") (pe_glob (v := .int 10) (by rfl) m_DEEPEST_FORMULA ⟨_, rfl⟩) (fun _ => .int _))) (qw_or1 (qt_not (qt_val (qe_call G_has_outer_form gd (hr.mono (by omega)) (by rfl) (qc_e (qe_var (pv 3)) qc_nil) (apart_of (by first | decide | simp [refsOf]))))))).pt (qss_one (qs_ret qe_bl)) qss_nil)
      (qss_cons (qs_set (i := 5) sc_is_formula.nd rfl (.inl rfl) (qe_call G_parts_of gd (hr.mono (by omega)) (by rfl) (qc_e (qe_var (pv 3)) qc_nil) (apart_of (by first | decide | simp [refsOf]))))
      (qss_cons (qs_augI (i := 2) sc_is_formula.nd rfl (.inl rfl) (qe_len (by rfl) z_len (qb_e (qe_var (pv 5)) qb_nil)))
      (qss_cons (qs_if (qt_gt (qe_var (pv 2)) (qe_glob (x := "") (pe_glob (v := .int 400) (by rfl) m_MOST_FORMULAS ⟨_, rfl⟩) (fun _ => .int _))) (qss_one (qs_ret qe_bl)) qss_nil)
      (qss_one (qs_expr (qe_extend (pv 1) (qa_cons (qe_of (qf_lc (own := [("formula", 6)]) rfl sc_is_formula.nd (qi_any (qe_var (pv 5))) (blkOk_by (N := n_is_formula) (sc := defScope s_is_formula) (by decide +kernel)) (fun _ _ _ _ _ => (qv_name (i := 6) sc_is_formula.nd rfl (.inl rfl) (by decide))) (fun _ _ _ _ _ => qts_nil) (fun _ _ _ _ _ => (qe_tup (qa_cons (qe_var (pv 6)) (qa_cons (qe_add (qe_var (pv 4)) qe_int) qa_nil)))))) qa_nil))))))))))
      (qss_one (qs_ret qe_bl))))), fun ss κ h => ?_⟩
  obtain ⟨d, nn, kk, rfl, td, hn, k⟩ := h
  generalize hT : cntB 10 d = T at k
  let ro : List PrN → Nat → Slot → Slot → Slot → Ro := fun ps f s3 s4 s5 => [.val d, .own false (.lst (ps.map prB)), .val (.int f), s3, s4, s5, .un]
  ((conv => whnf); repeat (refine And.intro (Eq.refl _) ?_; conv => whnf))
  refine ⟨fun n ρ => ∃ ps f s3 s4 s5, Wt T nn kk ps f ∧ n = 2 * (400 - f) + ps.length ∧ ρ = ro ps f s3 s4 s5, ⟨_, [(d, 1)], 1, .un, .un, .un, ⟨by unfold totB; simp [← hT]; omega, by simp, by decide, by simp, by simpa using td⟩, rfl, rfl⟩, ?_⟩
  rintro n ρ ⟨ps, f, s3, s4, s5, W, rfl, rfl⟩
  rcases snoc_cases ps with rfl | ⟨ps, p, rfl⟩
  · ((conv => whnf); repeat (refine And.intro (Eq.refl _) ?_; conv => whnf))
    have : T ≤ 400 := by have := W.sum; have := W.most; simp [totB] at *; omega
    rw [decide_eq_true this] at k
    exact k
  · have len : (ps ++ [p]).length = ps.length + 1 := by simp
    obtain ⟨p1, p2⟩ := p
    have hp := W.pos (p1, p2) (by simp)
    have tp := W.th (p1, p2) (by simp)
    have wp := W.sum
    rw [totB_app, len] at wp
    have gr := totB_ge ps
    have wf := W.few
    have wm := W.most
    rw [len] at wf
    have one : totB [(p1, p2)] = cntB (11 - p2) p1 := by simp [totB]
    rw [one] at wp
    ((conv => whnf); repeat (refine And.intro (Eq.refl _) ?_; conv => whnf))
    rw [show (!((ps ++ [(p1, p2)]).map prB).isEmpty) = true by simp]
    ((conv => whnf); repeat (refine And.intro (Eq.refl _) ?_; conv => whnf))
    refine ⟨fun ρ => ∃ m', m' < 2 * (400 - f) + (ps ++ [(p1, p2)]).length ∧ ∃ ps f s3 s4 s5, Wt T nn kk ps f ∧ m' = 2 * (400 - f) + ps.length ∧ ρ = ro ps f s3 s4 s5, fun ρ' h => h, ?_⟩
    ((conv => whnf); repeat (refine And.intro (Eq.refl _) ?_; conv => whnf))
    rw [show ((ps ++ [(p1, p2)]).map prB).getLast? = some (prB (p1, p2)) by simp]
    dsimp only
    rw [show ((ps ++ [(p1, p2)]).map prB).dropLast = ps.map prB by rw [List.map_append]; exact List.dropLast_concat]
    ((conv => whnf); repeat (refine And.intro (Eq.refl _) ?_; conv => whnf))
    have bad : 10000 ≤ cntB (11 - p2) p1 → κ (.bool false) [.un] := fun h => by
      rw [decide_eq_false (by omega : ¬ T ≤ 400)] at k
      exact k
    by_cases h10 : (p2 : Int) > 10
    · dsimp only
      rw [decide_eq_true h10]
      ((conv => whnf); repeat (refine And.intro (Eq.refl _) ?_; conv => whnf))
      refine bad ?_
      rw [show 11 - p2 = 0 by omega]
      exact Nat.le_refl _
    · dsimp only
      rw [decide_eq_false h10]
      obtain ⟨q, hq⟩ : ∃ q, 11 - p2 = q + 1 := ⟨10 - p2, by omega⟩
      have cq : cntB (11 - p2) p1 = if outB p1 = true then 1 + ((partB p1).map (cntB q)).sum else 10000 := by rw [hq]; rfl
      ((conv => whnf); repeat (refine And.intro (Eq.refl _) ?_; conv => whnf))
      refine ⟨p1, nn, kk, rfl, tp, hn, ?_⟩
      ((conv => whnf); repeat (refine And.intro (Eq.refl _) ?_; conv => whnf))
      cases ho : outB p1 with
      | false =>
        ((conv => whnf); repeat (refine And.intro (Eq.refl _) ?_; conv => whnf))
        refine bad ?_
        rw [cq, if_neg (by rw [ho]; decide)]
        exact Nat.le_refl _
      | true =>
        rw [if_pos ho] at cq
        ((conv => whnf); repeat (refine And.intro (Eq.refl _) ?_; conv => whnf))
        refine ⟨p1, rfl, ho, ?_⟩
        have tq := part_th tp ho
        have tt := totB_map (p2 + 1) (partB p1)
        rw [show 11 - (p2 + 1) = q by omega] at tt
        have tl := totB_ge ((partB p1).map fun d => (d, p2 + 1))
        rw [List.length_map] at tl
        generalize partB p1 = inn at cq tq tt tl ⊢
        ((conv => whnf); repeat (refine And.intro (Eq.refl _) ?_; conv => whnf))
        by_cases h4 : (f : Int) + (inn.length : Int) > 400
        · dsimp only
          rw [decide_eq_true h4]
          ((conv => whnf); repeat (refine And.intro (Eq.refl _) ?_; conv => whnf))
          rw [decide_eq_false (by omega : ¬ T ≤ 400)] at k
          exact k
        · dsimp only
          rw [decide_eq_false h4]
          ((conv => whnf); repeat (refine And.intro (Eq.refl _) ?_; conv => whnf))
          refine lcL_map (i := 6) (vs := [6]) (ρ := [.val d, .own false (.lst (ps.map prB)), .val (.int ((f : Int) + (inn.length : Int))), .val p1, .val (.int p2), .val (.tuple inn), .un]) (fun e => .tuple [e, .int ((p2 : Int) + 1)]) (fun d => rfl) (fun d hd k => fun h => h) ?_
          ((conv => whnf); repeat (refine And.intro (Eq.refl _) ?_; conv => whnf))
          refine ⟨by rw [List.length_map, List.length_map]; omega, ?_⟩
          refine ⟨_, ?_, ps ++ inn.map fun d => (d, p2 + 1), f + inn.length, .val p1, .val (.int p2), .val (.tuple inn), ⟨?_, ?_, by omega, ?_, ?_⟩, rfl, ?_⟩
          · rw [List.length_append, List.length_append, List.length_map, List.length_singleton]; omega
          · rw [totB_app, List.length_append, List.length_map]; omega
          · rw [List.length_append, List.length_map]; omega
          · intro p hp
            rcases List.mem_append.mp hp with hp | hp
            · exact W.pos p (List.mem_append_left _ hp)
            · obtain ⟨e, _, rfl⟩ := List.mem_map.mp hp
              exact ⟨by omega, by omega⟩
          · intro p hp
            rcases List.mem_append.mp hp with hp | hp
            · exact W.th p (List.mem_append_left _ hp)
            · obtain ⟨e, he, rfl⟩ := List.mem_map.mp hp
              exact tq e he
          · have em : (ps ++ inn.map fun d => (d, p2 + 1)).map prB = ps.map prB ++ inn.map (fun e => PyData.tuple [e, .int ((p2 : Int) + 1)]) := by rw [List.map_append, List.map_map]; rfl
            show _ = [Slot.val d, .own false (.lst ((ps ++ inn.map fun d => (d, p2 + 1)).map prB)), .val (.int ((f + inn.length : Nat) : Int)), .val p1, .val (.int p2), .val (.tuple inn), .un]
            rw [em, Int.natCast_add]
            rfl
end
end L2.Pu

set_option Elab.async false
set_option linter.all false
set_option maxRecDepth 100000
set_option maxHeartbeats 4000000
namespace L2.Pu
open PySem PySem.Spec PyProof.Rows
section
variable {P : Program} {w : World} {K : PySem.W.Frag} {mg : Str → Option Value} {base : Heap} {τ : Tb}
/-- the texts that a law draws from -/
def poolS : List Str := ten ++ twelve ++ (["feature", "all", "any", "", "A", "toolongname", "a1", "a b", "q"] : List Str) ++ (["e", "i", "j", "l", "abcdefgh", "abcdefghi", "1"] : List Str)
mutual
def okW (W : Nat) : PyData → Bool
  | .str x => decide (x ∈ poolS)
  | .list xs => decide (xs.length ≤ W) && okWs W xs
  | .tuple xs => decide (xs.length ≤ W) && okWs W xs
  | .dict kvs => okWe W kvs
  | .none => true
  | .bool _ => true
  | .int _ => true
def okWs (W : Nat) : List PyData → Bool
  | [] => true
  | d :: ds => okW W d && okWs W ds
def okWe (W : Nat) : List (PyData × PyData) → Bool
  | [] => true
  | (a, b) :: r => okW W a && (okW W b && okWe W r)
end
mutual
theorem okW_mono {W W' : Nat} (h : W ≤ W') : ∀ d : PyData, okW W d = true → okW W' d = true
  | .str x, q => by simpa only [okW] using q
  | .list xs, q => by
    simp only [okW, Bool.and_eq_true, decide_eq_true_eq] at q ⊢
    exact ⟨Nat.le_trans q.1 h, okWs_mono h xs q.2⟩
  | .tuple xs, q => by
    simp only [okW, Bool.and_eq_true, decide_eq_true_eq] at q ⊢
    exact ⟨Nat.le_trans q.1 h, okWs_mono h xs q.2⟩
  | .dict kvs, q => by
    simp only [okW] at q ⊢
    exact okWe_mono h kvs q
  | .none, _ => by simp only [okW]
  | .bool _, _ => by simp only [okW]
  | .int _, _ => by simp only [okW]
theorem okWs_mono {W W' : Nat} (h : W ≤ W') : ∀ ds : List PyData, okWs W ds = true → okWs W' ds = true
  | [], _ => by simp only [okWs]
  | d :: ds, q => by
    simp only [okWs, Bool.and_eq_true] at q ⊢
    exact ⟨okW_mono h d q.1, okWs_mono h ds q.2⟩
theorem okWe_mono {W W' : Nat} (h : W ≤ W') : ∀ es : List (PyData × PyData), okWe W es = true → okWe W' es = true
  | [], _ => by simp only [okWe]
  | (a, b) :: r, q => by
    simp only [okWe, Bool.and_eq_true] at q ⊢
    exact ⟨okW_mono h a q.1, okW_mono h b q.2.1, okWe_mono h r q.2.2⟩
end
theorem okWs_iff {W : Nat} : ∀ {ds : List PyData}, okWs W ds = true ↔ ∀ d ∈ ds, okW W d = true
  | [] => by simp [okWs]
  | d :: ds => by
    simp only [okWs, Bool.and_eq_true, List.mem_cons]
    rw [okWs_iff]
    exact ⟨fun h e he => he.elim (fun z => z ▸ h.1) (h.2 e), fun h => ⟨h d (.inl rfl), fun e he => h e (.inr he)⟩⟩
/-- a thing, with at most W in each tuple and each list, and texts of the pool -/
structure TW (d : PyData) (n k W : Nat) : Prop where
  th : Th d n k
  ok : okW W d = true
structure TWAll (ds : List PyData) (n k W : Nat) : Prop where
  th : ThAll ds n k
  ok : okWs W ds = true
theorem TW.more {d : PyData} {n k W n' k' W' : Nat} (h : TW d n k W) (a : n ≤ n') (b : k ≤ k') (c : W ≤ W') : TW d n' k' W' := ⟨h.th.more a b, okW_mono c d h.ok⟩
theorem TWAll.more {d : List PyData} {n k W n' k' W' : Nat} (h : TWAll d n k W) (a : n ≤ n') (b : k ≤ k') (c : W ≤ W') : TWAll d n' k' W' := ⟨h.th.more a b, okWs_mono c d h.ok⟩
theorem TWAll.mem {ds : List PyData} {n k W : Nat} (h : TWAll ds n k W) {d : PyData} (hd : d ∈ ds) : TW d n k W := ⟨h.th.mem hd, okWs_iff.mp h.ok d hd⟩
theorem TWAll.sub {a b : List PyData} {n k W : Nat} (s : a.Sublist b) (h : TWAll b n k W) : TWAll a n k W := ⟨h.th.sub s, okWs_iff.mpr fun d hd => okWs_iff.mp h.ok d (s.subset hd)⟩
theorem TWAll.rev {a : List PyData} {n k W : Nat} (h : TWAll a n k W) : TWAll a.reverse n k W := ⟨h.th.rev, okWs_iff.mpr fun d hd => okWs_iff.mp h.ok d (List.mem_reverse.mp hd)⟩
theorem TWAll.app {a b : List PyData} {n m k W : Nat} (h : TWAll a n k W) (g : TWAll b m k W) : TWAll (a ++ b) (n + m) k W := ⟨h.th.app g.th, okWs_iff.mpr fun d hd => (List.mem_append.mp hd).elim (okWs_iff.mp h.ok d) (okWs_iff.mp g.ok d)⟩
theorem TW.one {d : PyData} {n k W : Nat} (h : TW d n k W) : TWAll [d] (n + 1) k W := ⟨h.th.one, okWs_iff.mpr fun e he => by cases List.mem_singleton.mp he; exact h.ok⟩
theorem tw_tup {ds : List PyData} {n k W : Nat} (h : TWAll ds n k W) (l : ds.length ≤ W) : TW (.tuple ds) n (k + 1) W := ⟨th_tup h.th, by simp only [okW, Bool.and_eq_true, decide_eq_true_eq]; exact ⟨l, h.ok⟩⟩
theorem tw_lst {ds : List PyData} {n k W : Nat} (h : TWAll ds n k W) (l : ds.length ≤ W) : TW (.list ds) n (k + 1) W := ⟨th_lst h.th, by simp only [okW, Bool.and_eq_true, decide_eq_true_eq]; exact ⟨l, h.ok⟩⟩
theorem tw_dict1 {x : Str} {d : PyData} {n k W : Nat} (hx : (x.cps.toList.all fun c => decide (c < 16 ^ 8)) = true) (hp : x ∈ poolS) (h : TW d n k W) : TW (.dict [(.str x, d)]) (n + x.cps.size + 2) (k + 1) W := ⟨th_dict1 hx h.th, by simp only [okW, okWe, Bool.and_eq_true, decide_eq_true_eq]; exact ⟨hp, h.ok, trivial⟩⟩
theorem tw_tup_inv {ds : List PyData} {n k W : Nat} (h : TW (.tuple ds) n k W) : ∃ k', k = k' + 1 ∧ TWAll ds n k' W ∧ ds.length ≤ W := by
  obtain ⟨k', e, a⟩ := th_tup_inv h.th
  have := h.ok
  simp only [okW, Bool.and_eq_true, decide_eq_true_eq] at this
  exact ⟨k', e, ⟨a, this.2⟩, this.1⟩
def twC (n k W : Nat) (d : PyData) : Bool := thC n k d && okW W d
theorem all_tw {n k W : Nat} {ds : List PyData} (h : ds.all (twC n k W) = true) : ∀ d ∈ ds, TW d n k W := fun d hd => by
  have := List.all_eq_true.mp h d hd
  unfold twC at this
  rw [Bool.and_eq_true] at this
  exact ⟨thC_th this.1, this.2⟩
section
variable {ds : List PyData} {N k W : Nat} (aT : TWAll ds N k W) (hl : ds.length ≤ W)
include aT hl
theorem cut_len (lo hi : Option Int) : (cutD ds lo hi).length ≤ W := Nat.le_trans (List.Sublist.length_le (cut_sub _ _ _)) hl
theorem twb_lst : TW (.list ds) N (k + 1) (2 * W + 1) := (tw_lst aT hl).more (Nat.le_refl _) (Nat.le_refl _) (by omega)
theorem twb_rev : TW (.tuple ds.reverse) N (k + 1) (2 * W + 1) := (tw_tup aT.rev (by rw [List.length_reverse]; exact hl)).more (Nat.le_refl _) (Nat.le_refl _) (by omega)
theorem twb_app {lo hi : Option Int} : TW (.tuple (ds ++ cutD ds lo hi)) (N + N) (k + 1) (2 * W + 1) := tw_tup ((aT.app (aT.sub (cut_sub _ _ _))).more (Nat.le_refl _) (Nat.le_refl _) (by omega)) (by have := cut_len aT hl lo hi; rw [List.length_append]; omega)
theorem twb_cut {lo hi : Option Int} : TW (.tuple (cutD ds lo hi)) N (k + 1) (2 * W + 1) := tw_tup ((aT.sub (cut_sub _ _ _)).more (Nat.le_refl _) (Nat.le_refl _) (by omega)) (by have := cut_len aT hl lo hi; omega)
theorem twb_one : TW (.tuple [.tuple ds]) (N + 1) (k + 1 + 1) (2 * W + 1) := tw_tup ((tw_tup aT hl).one.more (Nat.le_refl _) (Nat.le_refl _) (by omega)) (by simp)
theorem twb_cc {lo hi lo2 hi2 : Option Int} : TW (.tuple (cutD ds lo hi ++ cutD ds lo2 hi2)) (N + N) (k + 1) (2 * W + 1) := tw_tup (((aT.sub (cut_sub _ _ _)).app (aT.sub (cut_sub _ _ _))).more (Nat.le_refl _) (Nat.le_refl _) (by omega)) (by have := cut_len aT hl lo hi; have := cut_len aT hl lo2 hi2; rw [List.length_append]; omega)
theorem twb_put {lo hi lo2 hi2 : Option Int} {e : PyData} {M k' : Nat} (te : TW e M k' (2 * W + 1)) (hk : k ≤ k') : TW (.tuple (cutD ds lo hi ++ [e] ++ cutD ds lo2 hi2)) (N + (M + 1) + N) (k' + 1) (2 * W + 1) :=
  tw_tup ((((aT.sub (cut_sub _ _ _)).more (Nat.le_refl _) hk (by omega)).app te.one).app ((aT.sub (cut_sub _ _ _)).more (Nat.le_refl _) hk (by omega))) (by have := cut_len aT hl lo hi; have := cut_len aT hl lo2 hi2; rw [List.length_append, List.length_append, List.length_singleton]; omega)
end
def spOddW : PSp := fun ss κ => ∃ n : Nat, ss = [.own true (.hand n)] ∧ 30 ≤ n ∧ ∀ (d : PyData) (n' : Nat), TW d 200 25 2 → n - 30 ≤ n' → κ d [.own true (.hand n')]
def spBentW (D : Nat) : PSp := fun ss κ => ∃ (n N k0 W : Nat) (d : PyData), ss = [.own true (.hand n), .val d, .val (.int D)] ∧ TW d N k0 W ∧ Shp d ∧ N ≤ 20000 ∧ 1 ≤ W ∧ k0 ≤ 20 ∧ 40 * (D + 1) ≤ n ∧ ∀ (e : PyData) (n' : Nat), TW e ((2 * N + 300) * (D + 1)) (k0 + 26) (2 * W + 1) → n - 40 * (D + 1) ≤ n' → κ e [.own true (.hand n'), .un, .un]
end
end L2.Pu

set_option Elab.async false
set_option linter.all false
set_option maxRecDepth 100000
set_option maxHeartbeats 4000000
namespace L2.Pu
open PySem PySem.Spec PyProof.Rows
section
variable {P : Program} {w : World} {K : PySem.W.Frag} {mg : Str → Option Value} {base : Heap} {τ : Tb}
def ft1 : PyData → List Str
  | .tuple [.str w, .str x] => if w = "feature" then [x] else []
  | _ => []
/-- the features in a formula -/
def ftB : Nat → PyData → List Str
  | 0, _ => []
  | n + 1, d => ft1 d ++ (partB d).flatMap (ftB n)
def spFin : PSp := fun ss κ => ∃ (d : PyData) (n k : Nat), ss = [.val d] ∧ Th d n k ∧ cntB 10 d ≤ 400 ∧ ∀ L : List PyData, L.length ≤ 400 → (∀ e ∈ L, outB e = true ∧ Th e n k) → (∀ x, x ∈ L.flatMap ft1 ↔ x ∈ ftB 10 d) → κ (.list L) [.un]
structure Wn (d : PyData) (nn kk : Nat) (fo : List PyData) (ps : List PrN) : Prop where
  sum : fo.length + totB ps = cntB 10 d
  th : ∀ p ∈ ps, Th p.1 nn kk
  out : ∀ e ∈ fo, outB e = true ∧ Th e nn kk
  fts : ∀ x, (x ∈ fo.flatMap ft1 ∨ ∃ p ∈ ps, x ∈ ftB (11 - p.2) p.1) ↔ x ∈ ftB 10 d
theorem pf_formulas_in {f : Addr} {fd : FuncData} (F : Fun K "formulas_in" "formulas_in" s_formulas_in f fd) (hm : mg "formulas_in" = some (.ref f)) (hk : PySem.W.keepIn K (.ref f) = true) (hb : Binds K fd p_formulas_in []) (G_parts_of : PFn τ P w K mg base 1 "parts_of" p_parts_of spPartA) : PFn τ P w K mg base 2 "formulas_in" p_formulas_in spFin := by
  refine fn_ofC F hm hk hb sc_formulas_in (fun ss κ h => by obtain ⟨d, n, k, rfl, _⟩ := h; rfl) fun cdv A outer s H E code gd hr => ?_
  refine ⟨_, (qss_cons (qs_setO (i := 1) sc_formulas_in.nd rfl (.inl rfl) (qf_list qa_nil))
      (qss_cons (qs_setO (i := 2) sc_formulas_in.nd rfl (.inl rfl) (qf_list (qa_cons (qe_var (pv 0)) qa_nil)))
      (qss_cons (qs_while PassesOwn.never (qt_truN (pv 2)) (qss_cons (qs_set (i := 3) sc_formulas_in.nd rfl (.inl rfl) (qe_pop (pv 2)))
      (qss_cons (qs_expr (qe_append (pv 1) (qa_cons (qe_var (pv 3)) qa_nil)))
      (qss_one (qs_expr (qe_extend (pv 2) (qa_cons (qe_call G_parts_of gd (hr.mono (by omega)) (by rfl) (qc_e (qe_var (pv 3)) qc_nil) (apart_of (by first | decide | simp [refsOf]))) qa_nil)))))))
      (qss_one (qs_ret (qe_frz (pv 1))))))), fun ss κ h => ?_⟩
  obtain ⟨d, nn, kk, rfl, td, hc, k⟩ := h
  let ro : List PyData → List PrN → Slot → Ro := fun fo ps s3 => [.val d, .own false (.lst fo), .own false (.lst (ps.map (·.1))), s3]
  ((conv => whnf); repeat (refine And.intro (Eq.refl _) ?_; conv => whnf))
  refine ⟨fun n ρ => ∃ fo ps s3, Wn d nn kk fo ps ∧ n = totB ps ∧ ρ = ro fo ps s3, ⟨_, [], [(d, 1)], .un, ⟨by simp [totB], by simpa using td, (fun _ z => nomatch z), fun x => by simp⟩, rfl, rfl⟩, ?_⟩
  rintro n ρ ⟨fo, ps, s3, W, rfl, rfl⟩
  have ws := W.sum
  rcases snoc_cases ps with rfl | ⟨ps, ⟨p1, p2⟩, rfl⟩
  · ((conv => whnf); repeat (refine And.intro (Eq.refl _) ?_; conv => whnf))
    refine k fo (by omega) W.out fun x => ?_
    rw [← W.fts x]
    simp
  · have tp := W.th (p1, p2) (by simp)
    have one : totB [(p1, p2)] = cntB (11 - p2) p1 := by simp [totB]
    rw [totB_app, one] at ws
    have gr := totB_ge ps
    obtain ⟨q, hq⟩ : ∃ q, 11 - p2 = q + 1 := by
      cases e : 11 - p2 with
      | zero => rw [e, show cntB 0 p1 = 10000 from rfl] at ws; omega
      | succ q => exact ⟨q, rfl⟩
    have cq : cntB (11 - p2) p1 = if outB p1 = true then 1 + ((partB p1).map (cntB q)).sum else 10000 := by rw [hq]; rfl
    have ho : outB p1 = true := by
      cases e : outB p1 with
      | true => rfl
      | false => rw [e, if_neg (by decide)] at cq; omega
    rw [if_pos ho] at cq
    have eq1 : 11 - (p2 + 1) = q := by omega
    have fq : ftB (11 - p2) p1 = ft1 p1 ++ (partB p1).flatMap (ftB q) := by rw [hq]; rfl
    have tt := totB_map (p2 + 1) (partB p1)
    rw [eq1] at tt
    have tl := totB_ge ((partB p1).map fun d => (d, p2 + 1))
    rw [List.length_map] at tl
    have lp : (ps.map (·.1)).length = ps.length := List.length_map _
    ((conv => whnf); repeat (refine And.intro (Eq.refl _) ?_; conv => whnf))
    rw [show (!((ps ++ [(p1, p2)]).map (·.1)).isEmpty) = true by simp]
    ((conv => whnf); repeat (refine And.intro (Eq.refl _) ?_; conv => whnf))
    refine ⟨fun ρ => ∃ m', m' < totB (ps ++ [(p1, p2)]) ∧ ∃ fo ps s3, Wn d nn kk fo ps ∧ m' = totB ps ∧ ρ = ro fo ps s3, fun ρ' h => h, ?_⟩
    ((conv => whnf); repeat (refine And.intro (Eq.refl _) ?_; conv => whnf))
    rw [show ((ps ++ [(p1, p2)]).map (·.1)).getLast? = some p1 by simp]
    dsimp only
    rw [show ((ps ++ [(p1, p2)]).map (·.1)).dropLast = ps.map (·.1) by rw [List.map_append]; exact List.dropLast_concat]
    ((conv => whnf); repeat (refine And.intro (Eq.refl _) ?_; conv => whnf))
    refine ⟨by omega, ?_⟩
    ((conv => whnf); repeat (refine And.intro (Eq.refl _) ?_; conv => whnf))
    refine ⟨p1, rfl, ho, ?_⟩
    have tq := part_th tp ho
    ((conv => whnf); repeat (refine And.intro (Eq.refl _) ?_; conv => whnf))
    refine ⟨by omega, ?_⟩
    refine ⟨_, ?_, fo ++ [p1], ps ++ (partB p1).map fun d => (d, p2 + 1), .val p1, ⟨?_, ?_, ?_, fun x => ?_⟩, rfl, ?_⟩
    · rw [totB_app, totB_app, one]; omega
    · rw [totB_app, List.length_append, List.length_singleton]; omega
    · intro p hp
      rcases List.mem_append.mp hp with hp | hp
      · exact W.th p (List.mem_append_left _ hp)
      · obtain ⟨e, he, rfl⟩ := List.mem_map.mp hp
        exact tq e he
    · intro e he
      rcases List.mem_append.mp he with he | he
      · exact W.out e he
      · cases List.mem_singleton.mp he; exact ⟨ho, tp⟩
    · rw [← W.fts x]
      have e1 : (∃ p ∈ ps ++ [(p1, p2)], x ∈ ftB (11 - p.2) p.1) ↔ (∃ p ∈ ps, x ∈ ftB (11 - p.2) p.1) ∨ (x ∈ ft1 p1 ∨ ∃ e ∈ partB p1, x ∈ ftB q e) := by
        constructor
        · rintro ⟨p, hp, hx⟩
          rcases List.mem_append.mp hp with hp | hp
          · exact .inl ⟨p, hp, hx⟩
          · cases List.mem_singleton.mp hp
            rw [fq, List.mem_append, List.mem_flatMap] at hx
            exact .inr hx
        · rintro (⟨p, hp, hx⟩ | hx)
          · exact ⟨p, List.mem_append_left _ hp, hx⟩
          · exact ⟨(p1, p2), List.mem_append_right _ List.mem_cons_self, by rw [fq, List.mem_append, List.mem_flatMap]; exact hx⟩
      have e2 : (∃ p ∈ ps ++ (partB p1).map (fun d => (d, p2 + 1)), x ∈ ftB (11 - p.2) p.1) ↔ (∃ p ∈ ps, x ∈ ftB (11 - p.2) p.1) ∨ ∃ e ∈ partB p1, x ∈ ftB q e := by
        constructor
        · rintro ⟨p, hp, hx⟩
          rcases List.mem_append.mp hp with hp | hp
          · exact .inl ⟨p, hp, hx⟩
          · obtain ⟨e, he, rfl⟩ := List.mem_map.mp hp
            rw [eq1] at hx
            exact .inr ⟨e, he, hx⟩
        · rintro (⟨p, hp, hx⟩ | ⟨e, he, hx⟩)
          · exact ⟨p, List.mem_append_left _ hp, hx⟩
          · exact ⟨(e, p2 + 1), List.mem_append_right _ (List.mem_map.mpr ⟨e, he, rfl⟩), by rw [eq1]; exact hx⟩
      have e3 : x ∈ (fo ++ [p1]).flatMap ft1 ↔ x ∈ fo.flatMap ft1 ∨ x ∈ ft1 p1 := by simp [List.mem_flatMap, List.flatMap_append]
      rw [e1, e2, e3]
      constructor
      · rintro ((a | a) | (a | a))
        · exact .inl a
        · exact .inr (.inr (.inl a))
        · exact .inr (.inl a)
        · exact .inr (.inr (.inr a))
      · rintro (a | (a | (a | a)))
        · exact .inl (.inl a)
        · exact .inr (.inl a)
        · exact .inl (.inr a)
        · exact .inr (.inr a)
    · have em : (ps ++ (partB p1).map fun d => (d, p2 + 1)).map (·.1) = ps.map (·.1) ++ partB p1 := by rw [List.map_append, List.map_map]; congr 1; exact List.map_id _
      show _ = [Slot.val d, .own false (.lst (fo ++ [p1])), .own false (.lst ((ps ++ (partB p1).map fun d => (d, p2 + 1)).map (·.1))), .val p1]
      rw [em]
      rfl
end
end L2.Pu

set_option Elab.async false
set_option linter.all false
set_option maxRecDepth 100000
set_option maxHeartbeats 4000000
/-! ## {elt for target in iter if ..}, elt a text -/
namespace L2.Fu
open PySem PySem.Spec PyProof.Rows
section
variable {X : Cx}
def tScT (P : Program) (w : World) (wi : TI) (g : TG) (tt : TT) (te : TE) (vs : List Nat) : TE := fun σ H Q => wi σ H fun J H1 => ∀ D, H1 D = none → ∃ W : Nat → Nat → Hp → Prop, (∃ m, W 0 m (upd H1 D (SetT P w D []))) ∧ ∀ i m H, W i m H →
  (J.stop i H ∧ Q (.ref D) H) ∨ (J.go i H ∧ ∃ Nx : Hp → Prop, (∀ H', Nx H' → ∃ m', m' < m ∧ W (i + 1) m' H') ∧ ∀ x H', J.yld i H x H' → g x (wipe σ vs) H' fun σ2 H2 => wipe σ2 vs = wipe σ vs ∧ tt σ2 H2 fun b H3 =>
    if b = true then te σ2 H3 fun y H4 => ∃ (k : Str) (l : List Str), y = .str k ∧ H4 D = some (SetT P w D l) ∧ l.length + 1 < scanBound ∧ Nx (upd H4 D (SetT P w D (if k ∈ l then l else k :: l))) else Nx H3)
theorem pe_scT {elt tg iter : Expr} {ifs : List Expr} {scope : Scope} {own : List (Str × Nat)} {pos : Pos} {wi : TI} {g : TG} {tt : TT} {te : TE} (hc : X.calm = true) (hN : X.N.Nodup) (hi : PI X tg iter wi) (ok : BlkOk X.N X.env.scope scope own)
    (hg : ∀ (s : Shared) (H : Hp) (C : Addr) (cl : List (Str × Addr)) (fp : List Addr), PG (X.blk s H scope (compEnvC scope cl C X.env) fp) tg g) (ht : ∀ (s : Shared) (H : Hp) (C : Addr) (cl : List (Str × Addr)) (fp : List Addr), PTs (X.blk s H scope (compEnvC scope cl C X.env) fp) ifs tt)
    (he : ∀ (s : Shared) (H : Hp) (C : Addr) (cl : List (Str × Addr)) (fp : List Addr), PE (X.blk s H scope (compEnvC scope cl C X.env) fp) elt te) (hs : ∀ x, foldedSetIterable iter X.env x = pure x := by intro _; rfl) :
    PE X (.SetComp elt [⟨tg, iter, ifs, 0⟩] scope pos) (tScT X.prog X.w wi g tt te (own.map (·.2))) := by
  refine ⟨fun pins s σ H Q I h => ?_⟩
  rw [PpSet.eval_SetComp]
  have cells : ∀ y ∈ scope.names, y.2 = .free → ∃ c, X.env.cells.lookup y.1 = some c := by
    intro y hy e
    exact (ok.free y hy e).elim (fun k => I.ok.has _ (.inl k)) fun k => I.ok.has _ (.inr k)
  refine wpAny_comprehension_free rfl hs (closure_ok cells) ok.kind (fun y hy e => by rw [ok.uniq y hy, e]) (thn (hi.run pins s σ H _ I h) fun xv s1 hx => thn hx fun itv s2 h2 => ?_)
  obtain ⟨it, fp, tn, J, G, rfl, I2, T, st2, f2, q⟩ := h2
  refine PpSet.newSet_ok (newEnv_comp ?_)
  -- the empty set is laid at D, then the block's own frame behind it
  have keep2 : ∀ b o, s2.heap.get? b = some o → (s2.heap.push { cls := .type "set", dict := none, data := .set #[] 0 (.fresh 0 0 (!X.w.params.followText "set-order")) }).get? b = some o := fun b o e => Heap.get?_push_of_some _ e
  have freeD : G s2.heap.objs.size = none := I2.hok.fresh (Nat.le_refl _)
  have I3 := I2.laid (t' := s2.toks) keep2 (Nat.le_refl _) (setT_new (H := upd G s2.heap.objs.size (SetT X.prog X.w s2.heap.objs.size [])) (fresh_T (P := X.prog) (w := X.w) (h := s2.heap)))
  obtain ⟨W, ⟨m0, w0⟩, turn⟩ := q s2.heap.objs.size freeD
  have low : ∀ b ∈ fp, b < s2.heap.objs.size := fun b hb => by
    obtain ⟨o, e, _⟩ := T.obj _ _ st2 b hb
    exact Heap.lt_size e
  have f3 : ∀ b ∈ fp, FpOk X pins (upd G s2.heap.objs.size (SetT X.prog X.w s2.heap.objs.size [])) b := fun b hb => by
    obtain ⟨z, zz⟩ := f2 b hb
    exact ⟨by rw [upd_ne (Nat.ne_of_lt (low b hb))]; exact z, zz⟩
  have st3 := T.keep _ _ _ st2 fun b _ o e => keep2 b o e
  generalize s2.heap.objs.size = D at I3 w0 turn f3 ⊢
  have low3 : ∀ b ∈ fp, b < (s2.heap.push { cls := .type "set", dict := none, data := .set #[] 0 (.fresh 0 0 (!X.w.params.followText "set-order")) }).objs.size := fun b hb => by
    rw [Heap.size_push]
    exact Nat.lt_succ_of_lt (low b hb)
  generalize hs3 : ({ s2 with heap := s2.heap.push { cls := .type "set", dict := none, data := .set #[] 0 (.fresh 0 0 (!X.w.params.followText "set-order")) } } : Shared) = s3 at I3
  have e3 : s3.heap = s2.heap.push { cls := .type "set", dict := none, data := .set #[] 0 (.fresh 0 0 (!X.w.params.followText "set-order")) } := by rw [← hs3]
  rw [← e3] at low3 st3
  generalize upd G D (SetT X.prog X.w D []) = G3 at I3 w0 f3
  have I4 := block_start I3 ok hN fun b hb => ⟨f3 b hb, low3 b hb⟩
  show codeAny _ _ (.compStart _ 0 (.ref it) (.ref D) (compEnvC scope (cellsFrom (s3.heap.objs.size + 1) scope.names (cloFrom X.env.cells scope.names [])) s3.heap.objs.size X.env)) (compPost (model X.prog X.w) X.A X.xe none _ (.ref D) s3.heap.objs.size) { s3 with heap := pushCells (s3.heap.push { cls := .type "dict", data := .dict #[] }) scope.names }
  have pg := hg s3 G3 s3.heap.objs.size (cellsFrom (s3.heap.objs.size + 1) scope.names (cloFrom X.env.cells scope.names [])) fp
  have pt := ht s3 G3 s3.heap.objs.size (cellsFrom (s3.heap.objs.size + 1) scope.names (cloFrom X.env.cells scope.names [])) fp
  have pe := he s3 G3 s3.heap.objs.size (cellsFrom (s3.heap.objs.size + 1) scope.names (cloFrom X.env.cells scope.names [])) fp
  have hL : (compEnvC scope (cellsFrom (s3.heap.objs.size + 1) scope.names (cloFrom X.env.cells scope.names [])) s3.heap.objs.size X.env).locals = s3.heap.objs.size := rfl
  generalize compEnvC scope (cellsFrom (s3.heap.objs.size + 1) scope.names (cloFrom X.env.cells scope.names [])) s3.heap.objs.size X.env = ce at I4 pg pt pe hL ⊢
  have st4 : tn 0 ({ s3 with heap := pushCells (s3.heap.push { cls := .type "dict", data := .dict #[] }) scope.names } : Shared).heap := T.keep _ _ _ st3 fun b _ o e => pushCells_keeps _ _ _ _ (Heap.get?_push_of_some _ e)
  generalize ({ s3 with heap := pushCells (s3.heap.push { cls := .type "dict", data := .dict #[] }) scope.names } : Shared) = s4 at I4 st4 ⊢
  have own_fp : ∀ {σ' : St} {H' : Hp} {s' : Shared}, Inv (X.blk s3 G3 scope ce fp) [] σ' H' s' → (∀ b ∈ fp, H' b = none) → ∀ b ∈ fp, FpOk (X.blk s3 G3 scope ce fp) [] H' b := by
    intro σ' H' s' I' hn b hb
    exact ⟨hn b hb, (I'.ok.exf b hb).1, I'.ok.exfs b hb, .inl hb, fun x c e => (I'.ok.exf b hb).2 x c e, fun p hp => nomatch hp⟩
  have loop : codeAny (model X.prog X.w) X.A (.compLoop (.SetComp elt [⟨tg, iter, ifs, 0⟩] scope pos) 0 (.ref it) (.ref D) ce) (compPost (model X.prog X.w) X.A X.xe none (EP X pins σ Q) (.ref D) s3.heap.objs.size) s4 := by
    refine PpSet.compLoopS_any (fun n t => ∃ (i : Nat) (Hi : Hp), Inv (X.blk s3 G3 scope ce fp) [] (wipe σ (own.map (·.2))) Hi t ∧ tn i t.heap ∧ (∀ b ∈ fp, Hi b = none) ∧ W i n Hi) ?_ m0 ⟨0, G3, I4, st4, fun b hb => (f3 b hb).1, w0⟩
    rintro n t ⟨i, Hi, It, stt, nt, wt⟩
    rcases turn i n Hi wt with ⟨stop, done⟩ | ⟨go, Nx, hNx, step⟩
    · refine thnF (T.done (X.blk s3 G3 scope ce fp) rfl rfl rfl hc i [] t _ Hi (fun _ _ => False) It (own_fp It nt) stt stop) fun r t6 hr => ?_
      obtain ⟨rfl, I6⟩ := hr
      have back : Inv X pins σ Hi t6 := I3.call' (ch := fp) I6.os I6.base I6.hok I6.bare fun b hb => by
        obtain ⟨_, z1, _, z3, z4, z5⟩ := f3 b hb
        exact ⟨z3, z1, z4, z5⟩
      obtain ⟨m, ns, _⟩ := I6.loc
      have ns : t6.heap.Ns ce.locals m := ns
      have free : Hi ce.locals = none := I6.free
      rw [hL] at ns free
      obtain ⟨u0, u1, u2, u3, u4, u5⟩ := I3.fpOk (Nat.le_refl _) free
      exact ⟨m, ns, fun h'' sb => ⟨.ref D, Hi, back.turned (t' := t6.toks) (fun b o hb e => (sb.2 b hb).trans e) u0 u1 u3 u4 u5, rfl, done⟩⟩
    · refine thnF (T.item (X.blk s3 G3 scope ce fp) rfl rfl rfl hc i [] t _ Hi (fun _ _ => False) It (own_fp It nt) stt go) fun r t6 hr => ?_
      obtain ⟨u, rfl, h6⟩ := hr
      refine thnF h6 fun _ t7 hr => ?_
      obtain ⟨x, H7, I7, r7, y7, st7, n7⟩ := hr
      have held := I7.pinned (own_fp I7 n7) (T.obj _ _ st7)
      -- a turn's end: what the iterator leans on stands
      have fin : ∀ (t' : Shared) (σ' : St) (H' : Hp), Inv (X.blk s3 G3 scope ce fp) ([] ++ pinsAt fp t7.heap) σ' H' t' → wipe σ' (own.map (·.2)) = wipe σ (own.map (·.2)) → Nx H' →
          ∃ m, m < n ∧ ∃ (i : Nat) (Hi : Hp), Inv (X.blk s3 G3 scope ce fp) [] (wipe σ (own.map (·.2))) Hi t' ∧ tn i t'.heap ∧ (∀ b ∈ fp, Hi b = none) ∧ W i m Hi := by
        intro t' σ' H' I' hw nx
        obtain ⟨m, lt, w'⟩ := hNx H' nx
        have pin : ∀ b ∈ fp, ∀ o, t7.heap.get? b = some o → t'.heap.get? b = some o ∧ H' b = none := by
          intro b hb o e
          have z := I'.pin (b, o) (List.mem_append_right _ (List.mem_append_right _ (mem_pinsAt hb e)))
          exact ⟨z.1, z.2.1⟩
        have ll : (wipe σ (own.map (·.2))).length = σ'.length := by rw [← hw, wipe_length]
        refine ⟨m, lt, i + 1, H', (I'.unpinned (pins := [])).weak ll (fun j v e => ?_), T.keep _ _ _ st7 fun b hb o e => (pin b hb o e).1, fun b hb => ?_, w'⟩
        · rw [← hw] at e
          exact (wipe_some e).1
        · obtain ⟨o, e, _⟩ := T.obj _ _ st7 b hb
          exact (pin b hb o e).2
      refine thnF (pg.run _ t7 _ H7 x u _ held r7 (step x H7 y7)) fun _ t8 hr => ?_
      obtain ⟨σ8, H8, I8, hw8, q8⟩ := hr
      refine thnF (pt.run _ t8 σ8 H8 _ I8 q8) fun b t9 hr => ?_
      obtain ⟨H9, I9, q9⟩ := hr
      match b, q9 with
      | false, q9 => exact fin t9 σ8 H9 I9 hw8 q9
      | true, q9 =>
        refine thnF (pe.run _ t9 σ8 H9 _ I9 q9) fun z t10 hr => ?_
        obtain ⟨yv, H10, I10, r10, k, l, rfl, hD, room, nx⟩ := hr
        obtain ⟨tk, rfl⟩ := r10
        exact addT_ok (X := X.blk s3 G3 scope ce fp) I10 hD room fun t11 I11 => fin t11 σ8 _ I11 hw8 nx
  exact PpSet.codeAny_compStart_set loop (T.self X.A 0 _ _ _ st4 loop)
end
/-- over a list that the block leaves as it is -/
theorem scT_list {P : Program} {w : World} {K : PySem.W.Frag} {a : Addr} {xs : List V} {g : TG} {tt : TT} {te : TE} {vs : List Nat} {σ : St} {H1 : Hp} {D : Addr} {Qd : Hp → Prop} (Pv : Nat → Hp → Prop) (h0 : Pv 0 (upd H1 D (SetT P w D []))) (hl : ∀ i H, Pv i H → SqL K H a xs)
    (hs : ∀ i x H, xs[i]? = some x → Pv i H → g x (wipe σ vs) H fun σ2 H2 => wipe σ2 vs = wipe σ vs ∧ tt σ2 H2 fun b H3 =>
      if b = true then te σ2 H3 fun y H4 => ∃ (k : Str) (l : List Str), y = .str k ∧ H4 D = some (SetT P w D l) ∧ l.length + 1 < scanBound ∧ Pv (i + 1) (upd H4 D (SetT P w D (if k ∈ l then l else k :: l))) else Pv (i + 1) H3) (hd : ∀ H, Pv xs.length H → Qd H) :
    ∃ W : Nat → Nat → Hp → Prop, (∃ m, W 0 m (upd H1 D (SetT P w D []))) ∧ ∀ i m H, W i m H →
      ((Itl K a).stop i H ∧ Qd H) ∨ ((Itl K a).go i H ∧ ∃ Nx : Hp → Prop, (∀ H', Nx H' → ∃ m', m' < m ∧ W (i + 1) m' H') ∧ ∀ x H', (Itl K a).yld i H x H' → g x (wipe σ vs) H' fun σ2 H2 => wipe σ2 vs = wipe σ vs ∧ tt σ2 H2 fun b H3 =>
        if b = true then te σ2 H3 fun y H4 => ∃ (k : Str) (l : List Str), y = .str k ∧ H4 D = some (SetT P w D l) ∧ l.length + 1 < scanBound ∧ Nx (upd H4 D (SetT P w D (if k ∈ l then l else k :: l))) else Nx H3) := by
  refine ⟨fun i m H => m + i = xs.length ∧ Pv i H, ⟨xs.length, rfl, h0⟩, ?_⟩
  rintro i m H ⟨hm, pv⟩
  have q := hl i H pv
  by_cases lt : i < xs.length
  · refine .inr ⟨⟨xs, xs[i], q, List.getElem?_eq_getElem lt⟩, Pv (i + 1), fun H' p' => ⟨m - 1, by omega, by omega, p'⟩, ?_⟩
    rintro x H' ⟨rfl, y⟩
    exact hs i x _ (y xs q) pv
  · obtain rfl : i = xs.length := by omega
    exact .inl ⟨⟨xs, q, Nat.le_refl _⟩, hd H pv⟩
end L2.Fu
namespace L2.Pu
open PySem PySem.Spec PyProof.Rows
/-- the element is a text -/
def qStr (te : QE) : QE := fun ρ κ => te ρ fun y ρ1 => (∃ k : Str, y = .str k) ∧ κ y ρ1
abbrev QST := Ro → (List Str → Ro → Prop) → Prop
def liftST (T : PK) (q : QST) : TE := fun σ H Q => ∃ F ρ C, Rep T F ρ C σ H ∧ ∃ κ, q ρ κ ∧ ∀ L ρ' p C' H', κ L ρ' → L.Nodup → Same C C' → Rep T F ρ' C' σ H' → H' p = some (Fu.SetT T.P T.w p L) → Q (.ref p) H'
def qScT (qi : QI) (g : QG) (tt : QT) (te : QE) (vs : List Nat) : QST := fun ρ κ => qi ρ fun ds ρ1 => ds.length < 4000 ∧ lcL g tt (qStr te) vs (fun acc ρ2 => ∃ is : List Str, acc = is.map PyData.str ∧ ∀ L : List Str, (∀ k, k ∈ L ↔ k ∈ is) → κ L (backR ρ1 ρ2 vs)) ds [] (wipeR ρ1 vs)
theorem str_mem {is : List Str} {k : Str} : PyData.str k ∈ is.map PyData.str ↔ k ∈ is := by
  rw [List.mem_map]
  exact ⟨fun ⟨a, h, e⟩ => by injection e with e; exact e ▸ h, fun h => ⟨k, h, rfl⟩⟩
theorem scT_imp {T : PK} {qi : QI} {g : QG} {tt : QT} {te : QE} {vs : List Nat} : ∀ σ H Q, liftST T (qScT qi g tt te vs) σ H Q → Fu.tScT T.P T.w (liftI T qi) (liftGv T vs g) (liftT T tt) (liftE T te) vs σ H Q := by
  rintro σ H Q ⟨F, ρ, C, R, κ, k, z⟩
  refine ⟨F, ρ, C, R, _, k, fun ds ρ1 C1 H1 J k1 s1 R1 wk D hD => ?_⟩
  obtain ⟨l4, k1⟩ := k1
  refine ⟨fun i m H => m + i = ds.length ∧ ∃ ρ2 C2 L acc, Same C1 C2 ∧ Rep T F ρ2 C2 (wipe σ vs) H ∧ H D = some (Fu.SetT T.P T.w D L) ∧ L.Nodup ∧ (∀ k, k ∈ L ↔ PyData.str k ∈ acc) ∧ Fresh F ρ2 C2 (wipe σ vs) D ∧ L.length ≤ i ∧ lcL g tt (qStr te) vs (fun acc ρ2 => ∃ is : List Str, acc = is.map PyData.str ∧ ∀ L : List Str, (∀ k, k ∈ L ↔ k ∈ is) → κ L (backR ρ1 ρ2 vs)) (ds.drop i) acc ρ2,
    ⟨ds.length, rfl, wipeR ρ1 vs, C1, [], [], same_refl _, (R1.layH hD).wipe vs, upd_same, List.nodup_nil, (fun k => ⟨(fun z => nomatch z), (fun z => nomatch z)⟩), (R1.new_fresh hD).mono_wipe, Nat.le_refl _, k1⟩, ?_⟩
  have hr := R1.ref_ne hD
  have c0 := R1.c0_none (sub_none R1.sub hD)
  have few := wk.few
  have wiped : ∀ us : List Nat, (∀ u ∈ us, u ∈ vs) → wipe (wipe σ us) vs = wipe σ vs := by
    intro us
    induction us with
    | nil => intro _; rfl
    | cons u us ih =>
      intro h
      show wipe ((wipe σ us).set u none) vs = _
      rw [wipe_set (h u List.mem_cons_self), ih fun w hw => h w (List.mem_cons_of_mem _ hw)]
  rintro i m H2 ⟨hm, ρ2, C2, L, acc, s2, R2, e2, nd2, mem2, f2, l2, k2⟩
  by_cases lt : i < ds.length
  · have hd : ds.drop i = ds[i] :: ds.drop (i + 1) := List.drop_eq_getElem_cons lt
    rw [hd] at k2
    obtain ⟨N, hN, k2⟩ := k2
    refine .inr ⟨wk.go i C2 H2 s2 R2.sub lt, fun H' => ∃ ρ3 C3 L acc, Same C1 C3 ∧ Rep T F ρ3 C3 (wipe σ vs) H' ∧ H' D = some (Fu.SetT T.P T.w D L) ∧ L.Nodup ∧ (∀ k, k ∈ L ↔ PyData.str k ∈ acc) ∧ Fresh F ρ3 C3 (wipe σ vs) D ∧ L.length ≤ i + 1 ∧ N acc ρ3, ?_, ?_⟩
    · rintro H' ⟨ρ3, C3, L3, acc3, s3, R3, e3, nd3, mem3, f3, l3, n3⟩
      exact ⟨m - 1, by omega, by omega, ρ3, C3, L3, acc3, s3, R3, e3, nd3, mem3, f3, l3, hN _ _ n3⟩
    · intro x H3 hy
      have Rg := R2.guard f2 e2
      obtain ⟨d, C3, hd1, s3, R3, hd2⟩ := wk.yld i _ ρ2 C2 _ H2 x H3 Rg s2 hy lt
      have : ds[i] = d := by rw [List.getElem?_eq_getElem lt] at hd1; exact Option.some.inj hd1
      rw [this] at k2
      have nt : ∀ xs, Fu.SetT T.P T.w D L ≠ .tup xs := fun xs e => nomatch e
      have no : NoTb (Fu.SetT T.P T.w D L) := fun xs e => nomatch e
      refine ⟨_, ρ2, C3, d, R3, hd2, _, k2, fun ρ4 C4 σ4 H4 k4 s4 R4 w4 => ⟨w4.trans (wiped vs fun _ h => h), _, ρ4, C4, R4, _, k4, fun b ρ5 C5 H5 k5 s5 R5 => ?_⟩⟩
      have w4' : wipe σ4 vs = wipe σ vs := w4.trans (wiped vs fun _ h => h)
      have s15 := same_trans s2 (same_trans s3 (same_trans s4 s5))
      cases b with
      | false =>
        obtain ⟨R6, e6, f6⟩ := R5.unguard nt no f2.start c0 hr
        exact ⟨wipeR ρ5 vs, C5, L, acc, s15, by rw [← w4']; exact R6.wipe vs, e6, nd2, mem2, by rw [← w4']; exact f6.mono_wipe, Nat.le_succ_of_le l2, k5⟩
      | true =>
        refine ⟨_, ρ5, C5, R5, _, k5, fun y ρ6 v C6 H6 k6 s6 R6 d6 => ?_⟩
        obtain ⟨⟨j, rfl⟩, k6⟩ := k6
        obtain rfl : v = V.str j := by cases d6; rfl
        obtain ⟨R7, e7, f7⟩ := R6.unguard nt no f2.start c0 hr
        have nc : (∀ ps, H6 D ≠ some (.tbl ps)) ∧ ∀ q, H6 D ≠ some (LamX.CodeO D q) := ⟨fun _ z => (by rw [e7] at z; exact no _ (Option.some.inj z)), fun _ z => (by rw [e7] at z; exact set_nocode (Option.some.inj z))⟩
        refine ⟨j, L, rfl, e7, by unfold scanBound; omega, wipeR ρ6 vs, C6, (if j ∈ L then L else j :: L), acc ++ [.str j], same_trans s15 s6, ?_, upd_same, ?_, fun k => ?_, by rw [← w4']; exact f7.mono_wipe, ?_, k6⟩
        · rw [← w4']; exact (R7.writeF f7 hr nc (Fu.SetT T.P T.w D ((if j ∈ L then L else j :: L))) (fun xs e => nomatch e)).wipe vs
        · split
          · exact nd2
          · exact List.nodup_cons.mpr ⟨by assumption, nd2⟩
        · rw [List.mem_append, List.mem_singleton, ← mem2]
          split
          · rename_i h; exact ⟨.inl, fun z => z.elim id fun z => by injection z with z; exact z ▸ h⟩
          · rw [List.mem_cons]; exact ⟨fun z => z.elim (fun z => .inr (by rw [z])) .inl, fun z => z.elim .inr fun z => .inl (by injection z)⟩
        · split
          · omega
          · rw [List.length_cons]; omega
  · refine .inl ⟨wk.stop i C2 H2 s2 R2.sub (by omega), ?_⟩
    rw [List.drop_eq_nil_of_le (by omega)] at k2
    obtain ⟨is, ea, k2⟩ := k2
    have Rb := Rep.back R1 s2 R2
    exact z L _ _ _ _ (k2 L fun k => by rw [mem2, ea, str_mem]) nd2 (same_trans s1 s2) Rb e2
section
variable {X : Cx} {τ : Tb} {pos p spos : Pos}
/-- sorted of a set comprehension of texts -/
def qfSortScT (qi : QI) (g : QG) (tt : QT) (te : QE) (vs : List Nat) : QF := fun ρ κ => qScT qi g tt te vs ρ fun L ρ1 => L.Nodup → L.length < 64 ∧ κ (.lst ((sortS L).map PyData.str)) ρ1
theorem qf_sortScT {elt tg iter : Expr} {ifs : List Expr} {scope : Scope} {own : List (Str × Nat)} {qi : QI} {g : QG} {tt : QT} {te : QE} (hc : X.calm = true) (hgl : Gl X "sorted") (hm : X.mg "sorted" = none) (hN : X.N.Nodup) (hi : PQI τ X tg iter qi) (ok : BlkOk X.N X.env.scope scope own)
    (hg : ∀ (s : Shared) (H : Hp) (C : Addr) (cl : List (Str × Addr)) (fp : List Addr), PQGv τ (X.blk s H scope (compEnvC scope cl C X.env) fp) (own.map (·.2)) tg g) (ht : ∀ (s : Shared) (H : Hp) (C : Addr) (cl : List (Str × Addr)) (fp : List Addr), PQTs τ (X.blk s H scope (compEnvC scope cl C X.env) fp) ifs tt)
    (he : ∀ (s : Shared) (H : Hp) (C : Addr) (cl : List (Str × Addr)) (fp : List Addr), PQ τ (X.blk s H scope (compEnvC scope cl C X.env) fp) elt te) (hs : ∀ x, foldedSetIterable iter X.env x = pure x := by intro _; rfl)
    (hst : starEach [Expr.SetComp elt [⟨tg, iter, ifs, 0⟩] scope spos] X.env = (false, eval (.SetComp elt [⟨tg, iter, ifs, 0⟩] scope spos) X.env) :: starEach [] X.env := by rfl) (hpl : (backTo pos (starEach [] X.env)).any (·.1) = false := by rfl) :
    PQF τ X (.Call (.Name "sorted" p) [.SetComp elt [⟨tg, iter, ifs, 0⟩] scope spos] [] pos) (qfSortScT qi g tt te (own.map (·.2))) := by
  refine pe_imp _ (pe_callB (Fu.cr_sortT hc) hgl hm (by decide +kernel) (pa_cons (Fu.pe_scT (wi := liftI (X.pk τ) qi) (g := liftGv (X.pk τ) (own.map (·.2)) g) (tt := liftT (X.pk τ) tt) (te := liftE (X.pk τ) te) hc hN hi ok hg ht he hs) pa_nil hst) (by decide) (by decide) hst hpl) ?_
  rintro σ H Q ⟨F, ρ, C, R, κ, k, z⟩
  refine scT_imp (T := X.pk τ) σ H (fun x H1 => Fu.rSortT X.prog X.w [x] H1 Q) ⟨F, ρ, C, R, _, k, fun L ρ1 q C1 H1 k1 nd s1 R1 e1 => ?_⟩
  refine ⟨q, L, rfl, e1, (k1 nd).1, fun ys q2 py sy nq => ?_⟩
  rw [sortS_of py sy] at *
  exact z _ _ _ _ _ (k1 nd).2 s1 (R1.layH nq) ⟨_, upd_same, da_strs _⟩ (R1.new_fresh nq) (R1.ref_ne nq)
end
end L2.Pu

set_option Elab.async false
set_option linter.all false
set_option maxRecDepth 100000
set_option maxHeartbeats 4000000
namespace L2.Pu
open PySem PySem.Spec PyProof.Rows
section
variable {P : Program} {w : World} {K : PySem.W.Frag} {mg : Str → Option Value} {base : Heap} {τ : Tb}
def isFt : PyData → Bool
  | .tuple (.str w :: _) => decide (w = "feature")
  | _ => false
def theFt : PyData → PyData
  | .tuple [_, x] => x
  | d => d
theorem out_ft {rest : List PyData} (h : outB (.tuple (.str "feature" :: rest)) = true) : ∃ y : Str, rest = [.str y] := by
  rw [out_eq, if_pos rfl, Bool.and_eq_true, decide_eq_true_eq] at h
  match rest, h with
  | [a], h =>
    cases a with
    | str y => exact ⟨y, rfl⟩
    | _ => exact absurd h.2 (by simp [nameB])
theorem fts_map : ∀ {L : List PyData}, (∀ e ∈ L, outB e = true) → (L.filter isFt).map theFt = (L.flatMap ft1).map PyData.str
  | [], _ => rfl
  | e :: L, h => by
    have ih := fts_map fun e he => h e (List.mem_cons_of_mem _ he)
    have ho := h e List.mem_cons_self
    obtain ⟨x, rest, rfl⟩ := out_shape ho
    rw [List.flatMap_cons, List.map_append, ← ih]
    by_cases hx : x = "feature"
    · subst hx
      obtain ⟨y, rfl⟩ := out_ft ho
      rfl
    · have e1 : isFt (.tuple (.str x :: rest)) = false := decide_eq_false hx
      rw [List.filter_cons_of_neg (by rw [e1]; decide)]
      have e2 : ft1 (.tuple (.str x :: rest)) = [] := by
        unfold ft1
        split
        · rename_i heq
          simp only [PyData.tuple.injEq, List.cons.injEq, PyData.str.injEq] at heq
          rw [if_neg (by rw [← heq.1]; exact hx)]
        · rfl
      rw [e2]; rfl
theorem ft1_pool {W : Nat} {d : PyData} (h : okW W d = true) : ∀ x ∈ ft1 d, x ∈ poolS := by
  intro x hx
  unfold ft1 at hx
  split at hx
  · rename_i w y
    split at hx
    · cases List.mem_singleton.mp hx
      simp only [okW, okWs, Bool.and_eq_true, decide_eq_true_eq] at h
      exact h.2.2.1
    · cases hx
  · cases hx
theorem part_ok {W : Nat} {d : PyData} (h : okW W d = true) : ∀ e ∈ partB d, okW W e = true := by
  intro e he
  unfold partB at he
  split at he
  · rename_i w rest
    simp only [okW, okWs, Bool.and_eq_true] at h
    split at he
    · cases he
    · exact okWs_iff.mp h.2.2 e he
  · cases he
theorem ft_pool {W : Nat} : ∀ (n : Nat) {d : PyData}, okW W d = true → ∀ x ∈ ftB n d, x ∈ poolS
  | 0, _, _ => fun _ z => nomatch z
  | n + 1, d, h => by
    intro x hx
    have hx : x ∈ ft1 d ++ (partB d).flatMap (ftB n) := hx
    rcases List.mem_append.mp hx with hx | hx
    · exact ft1_pool h x hx
    · obtain ⟨e, he, hx⟩ := List.mem_flatMap.mp hx
      exact ft_pool n (part_ok h e he) x hx
def spFeats : PSp := fun ss κ => ∃ (d : PyData) (n k W : Nat), ss = [.val d] ∧ TW d n k W ∧ cntB 10 d ≤ 400 ∧ ∀ fs : List Str, (∀ x, x ∈ fs ↔ x ∈ ftB 10 d) → κ (tupS fs) [.un]
theorem pf_features_of {f : Addr} {fd : FuncData} (F : Fun K "features_of" "features_of" s_features_of f fd) (hm : mg "features_of" = some (.ref f)) (hk : PySem.W.keepIn K (.ref f) = true) (hb : Binds K fd p_features_of []) (z_sorted : mg "sorted" = none) (z_tuple : mg "tuple" = none) (G_formulas_in : PFn τ P w K mg base 2 "formulas_in" p_formulas_in spFin) : PFn τ P w K mg base 3 "features_of" p_features_of spFeats := by
  refine fn_ofC F hm hk hb sc_features_of (fun ss κ h => by obtain ⟨d, n, k, W, rfl, _⟩ := h; rfl) fun cdv A outer s H E code gd hr => ?_
  refine ⟨_, (qss_one (qs_ret (qe_tuple (by rfl) z_tuple (qb_e (qe_of (qf_sortScT rfl (by rfl) z_sorted sc_features_of.nd (own := [("part", 1)]) (qi_any (qe_call G_formulas_in gd (hr.mono (by omega)) (by rfl) (qc_e (qe_var (pv 0)) qc_nil) (apart_of (by first | decide | simp [refsOf])))) (blkOk_by (N := n_features_of) (sc := defScope s_features_of) (by decide +kernel)) (fun _ _ _ _ _ => (qv_name (i := 1) sc_features_of.nd rfl (.inl rfl) (by decide))) (fun _ _ _ _ _ => (qts_one (qt_eq (ru64 hr) (qe_ix (qe_var (pv 1)) qe_int) qe_str))) (fun _ _ _ _ _ => (qe_ix (qe_var (pv 1)) qe_int)))) qb_nil)))), fun ss κ h => ?_⟩
  obtain ⟨d, nn, kk, W, rfl, td, hc, k⟩ := h
  ((conv => whnf); repeat (refine And.intro (Eq.refl _) ?_; conv => whnf))
  refine ⟨d, nn, kk, rfl, td.th, hc, fun L lL hL hf => ?_⟩
  ((conv => whnf); repeat (refine And.intro (Eq.refl _) ?_; conv => whnf))
  refine ⟨by omega, ?_⟩
  refine lcL_pure (i := 1) (vs := [1]) (ρ := [.val d, .un]) isFt theFt (fun d => rfl) L [] (fun e he K => ?_) (fun e he hp K => ?_) ?_
  · obtain ⟨x, rest, rfl⟩ := out_shape (hL e he).1
    intro h
    ((conv => whnf); repeat (refine And.intro (Eq.refl _) ?_; conv => whnf))
    rw [at0]
    exact h
  · have ho := (hL e he).1
    obtain ⟨x, rest, rfl⟩ := out_shape ho
    have hx : x = "feature" := of_decide_eq_true hp
    subst hx
    obtain ⟨y, rfl⟩ := out_ft ho
    intro h
    exact ⟨⟨y, rfl⟩, h⟩
  · rw [List.nil_append, fts_map fun e he => (hL e he).1]
    refine ⟨_, rfl, fun L2 hL2 nd => ⟨?_, ?_⟩⟩
    · have := nodup_le nd (b := poolS) fun x hx => ft_pool 10 td.ok x ((hf x).mp ((hL2 x).mp hx))
      exact Nat.lt_of_le_of_lt this (by decide)
    · ((conv => whnf); repeat (refine And.intro (Eq.refl _) ?_; conv => whnf))
      exact k _ fun x => by rw [mem_sortS, hL2, hf]
end
end L2.Pu

set_option Elab.async false
set_option linter.all false
set_option maxRecDepth 100000
set_option maxHeartbeats 4000000
namespace L2.Pu
open PySem PySem.Spec PyProof.Rows
section
variable {P : Program} {w : World} {K : PySem.W.Frag} {mg : Str → Option Value} {base : Heap} {τ : Tb}
/-- the formulas in a formula, as they are met -/
def dfs : Nat → PyData → List PyData
  | 0, _ => []
  | n + 1, d => d :: (partB d).reverse.flatMap (dfs n)
def spFinE : PSp := fun ss κ => ∃ (d : PyData) (n k : Nat), ss = [.val d] ∧ Th d n k ∧ cntB 10 d ≤ 400 ∧ (((dfs 10 d).length ≤ 400 ∧ ∀ e ∈ dfs 10 d, outB e = true ∧ Th e n k) → κ (.list (dfs 10 d)) [.un])
structure We (d : PyData) (nn kk : Nat) (fo : List PyData) (ps : List PrN) : Prop where
  sum : fo.length + totB ps = cntB 10 d
  th : ∀ p ∈ ps, Th p.1 nn kk
  out : ∀ e ∈ fo, outB e = true ∧ Th e nn kk
  ord : fo ++ ps.reverse.flatMap (fun p => dfs (11 - p.2) p.1) = dfs 10 d
theorem pf_formulas_inE {f : Addr} {fd : FuncData} (F : Fun K "formulas_in" "formulas_in" s_formulas_in f fd) (hm : mg "formulas_in" = some (.ref f)) (hk : PySem.W.keepIn K (.ref f) = true) (hb : Binds K fd p_formulas_in []) (G_parts_of : PFn τ P w K mg base 1 "parts_of" p_parts_of spPartA) : PFn τ P w K mg base 2 "formulas_in" p_formulas_in spFinE := by
  refine fn_ofC F hm hk hb sc_formulas_in (fun ss κ h => by obtain ⟨d, n, k, rfl, _⟩ := h; rfl) fun cdv A outer s H E code gd hr => ?_
  refine ⟨_, (qss_cons (qs_setO (i := 1) sc_formulas_in.nd rfl (.inl rfl) (qf_list qa_nil))
      (qss_cons (qs_setO (i := 2) sc_formulas_in.nd rfl (.inl rfl) (qf_list (qa_cons (qe_var (pv 0)) qa_nil)))
      (qss_cons (qs_while PassesOwn.never (qt_truN (pv 2)) (qss_cons (qs_set (i := 3) sc_formulas_in.nd rfl (.inl rfl) (qe_pop (pv 2)))
      (qss_cons (qs_expr (qe_append (pv 1) (qa_cons (qe_var (pv 3)) qa_nil)))
      (qss_one (qs_expr (qe_extend (pv 2) (qa_cons (qe_call G_parts_of gd (hr.mono (by omega)) (by rfl) (qc_e (qe_var (pv 3)) qc_nil) (apart_of (by first | decide | simp [refsOf]))) qa_nil)))))))
      (qss_one (qs_ret (qe_frz (pv 1))))))), fun ss κ h => ?_⟩
  obtain ⟨d, nn, kk, rfl, td, hc, k⟩ := h
  let ro : List PyData → List PrN → Slot → Ro := fun fo ps s3 => [.val d, .own false (.lst fo), .own false (.lst (ps.map (·.1))), s3]
  ((conv => whnf); repeat (refine And.intro (Eq.refl _) ?_; conv => whnf))
  refine ⟨fun n ρ => ∃ fo ps s3, We d nn kk fo ps ∧ n = totB ps ∧ ρ = ro fo ps s3, ⟨_, [], [(d, 1)], .un, ⟨by simp [totB], by simpa using td, (fun _ z => nomatch z), by simp⟩, rfl, rfl⟩, ?_⟩
  rintro n ρ ⟨fo, ps, s3, W, rfl, rfl⟩
  have ws := W.sum
  rcases snoc_cases ps with rfl | ⟨ps, ⟨p1, p2⟩, rfl⟩
  · ((conv => whnf); repeat (refine And.intro (Eq.refl _) ?_; conv => whnf))
    have eo : fo = dfs 10 d := by have := W.ord; simpa using this
    subst eo
    exact k ⟨by omega, W.out⟩
  · have tp := W.th (p1, p2) (by simp)
    have one : totB [(p1, p2)] = cntB (11 - p2) p1 := by simp [totB]
    rw [totB_app, one] at ws
    have gr := totB_ge ps
    obtain ⟨q, hq⟩ : ∃ q, 11 - p2 = q + 1 := by
      cases e : 11 - p2 with
      | zero => rw [e, show cntB 0 p1 = 10000 from rfl] at ws; omega
      | succ q => exact ⟨q, rfl⟩
    have cq : cntB (11 - p2) p1 = if outB p1 = true then 1 + ((partB p1).map (cntB q)).sum else 10000 := by rw [hq]; rfl
    have ho : outB p1 = true := by
      cases e : outB p1 with
      | true => rfl
      | false => rw [e, if_neg (by decide)] at cq; omega
    rw [if_pos ho] at cq
    have eq1 : 11 - (p2 + 1) = q := by omega
    have fq : dfs (11 - p2) p1 = p1 :: (partB p1).reverse.flatMap (dfs q) := by rw [hq]; rfl
    have tt := totB_map (p2 + 1) (partB p1)
    rw [eq1] at tt
    have tl := totB_ge ((partB p1).map fun d => (d, p2 + 1))
    rw [List.length_map] at tl
    have lp : (ps.map (·.1)).length = ps.length := List.length_map _
    ((conv => whnf); repeat (refine And.intro (Eq.refl _) ?_; conv => whnf))
    rw [show (!((ps ++ [(p1, p2)]).map (·.1)).isEmpty) = true by simp]
    ((conv => whnf); repeat (refine And.intro (Eq.refl _) ?_; conv => whnf))
    refine ⟨fun ρ => ∃ m', m' < totB (ps ++ [(p1, p2)]) ∧ ∃ fo ps s3, We d nn kk fo ps ∧ m' = totB ps ∧ ρ = ro fo ps s3, fun ρ' h => h, ?_⟩
    ((conv => whnf); repeat (refine And.intro (Eq.refl _) ?_; conv => whnf))
    rw [show ((ps ++ [(p1, p2)]).map (·.1)).getLast? = some p1 by simp]
    dsimp only
    rw [show ((ps ++ [(p1, p2)]).map (·.1)).dropLast = ps.map (·.1) by rw [List.map_append]; exact List.dropLast_concat]
    ((conv => whnf); repeat (refine And.intro (Eq.refl _) ?_; conv => whnf))
    refine ⟨by omega, ?_⟩
    ((conv => whnf); repeat (refine And.intro (Eq.refl _) ?_; conv => whnf))
    refine ⟨p1, rfl, ho, ?_⟩
    have tq := part_th tp ho
    ((conv => whnf); repeat (refine And.intro (Eq.refl _) ?_; conv => whnf))
    refine ⟨by omega, ?_⟩
    refine ⟨_, ?_, fo ++ [p1], ps ++ (partB p1).map fun d => (d, p2 + 1), .val p1, ⟨?_, ?_, ?_, ?_⟩, rfl, ?_⟩
    · rw [totB_app, totB_app, one]; omega
    · rw [totB_app, List.length_append, List.length_singleton]; omega
    · intro p hp
      rcases List.mem_append.mp hp with hp | hp
      · exact W.th p (List.mem_append_left _ hp)
      · obtain ⟨e, he, rfl⟩ := List.mem_map.mp hp
        exact tq e he
    · intro e he
      rcases List.mem_append.mp he with he | he
      · exact W.out e he
      · cases List.mem_singleton.mp he; exact ⟨ho, tp⟩
    · rw [← W.ord, List.reverse_append, List.reverse_append, List.flatMap_append, List.flatMap_append, List.reverse_singleton, List.flatMap_cons, List.flatMap_nil, List.append_nil, fq, ← List.map_reverse, List.flatMap_map]
      have eq2 : ((partB p1).reverse.flatMap fun a => dfs (11 - (p2 + 1)) a) = (partB p1).reverse.flatMap (dfs q) := by rw [eq1]
      show fo ++ [p1] ++ (((partB p1).reverse.flatMap fun a => dfs (11 - (p2 + 1)) a) ++ _) = _
      rw [eq2]
      simp
    · have em : (ps ++ (partB p1).map fun d => (d, p2 + 1)).map (·.1) = ps.map (·.1) ++ partB p1 := by rw [List.map_append, List.map_map]; congr 1; exact List.map_id _
      show _ = [Slot.val d, .own false (.lst (fo ++ [p1])), .own false (.lst ((ps ++ (partB p1).map fun d => (d, p2 + 1)).map (·.1))), .val p1]
      rw [em]
      rfl
end
end L2.Pu

set_option Elab.async false
set_option linter.all false
set_option maxRecDepth 100000
set_option maxHeartbeats 4000000
namespace L2.Pu
open PySem PySem.Spec PyProof.Rows
theorem asc_same {a b : List Str} (ha : a.Pairwise ltS) (hb : b.Pairwise ltS) (h : ∀ x, x ∈ a ↔ x ∈ b) : a = b := by
  have s1 : a.Sublist b := sub_of_asc ha hb fun x hx => (h x).mp hx
  have s2 : b.Sublist a := sub_of_asc hb ha fun x hx => (h x).mpr hx
  exact s1.eq_of_length (Nat.le_antisymm s1.length_le s2.length_le)
theorem asc_sortS {l : List Str} (nd : l.Nodup) : (sortS l).Pairwise ltS := by
  have h1 := sortS_pair l
  have h2 : (sortS l).Nodup := (sortS_perm l).nodup_iff.mpr nd
  exact (h1.and h2).imp fun h => ⟨h.1, h.2⟩
noncomputable def featB (d : PyData) : List Str := sortS (Fu.allL ((dfs 10 d).flatMap ft1))
def notB : PyData → Bool
  | .tuple (.str w :: _) => decide (w = "not")
  | _ => false
def posB (d : PyData) : Bool := (dfs 10 d).all fun e => !notB e
section
variable {P : Program} {w : World} {K : PySem.W.Frag} {mg : Str → Option Value} {base : Heap} {τ : Tb}
def spFeatsE : PSp := fun ss κ => ∃ (d : PyData) (n k W : Nat), ss = [.val d] ∧ TW d n k W ∧ cntB 10 d ≤ 400 ∧ (∀ x ∈ (dfs 10 d).flatMap ft1, x ∈ poolS) ∧ κ (tupS (featB d)) [.un]
theorem pf_features_ofE {f : Addr} {fd : FuncData} (F : Fun K "features_of" "features_of" s_features_of f fd) (hm : mg "features_of" = some (.ref f)) (hk : PySem.W.keepIn K (.ref f) = true) (hb : Binds K fd p_features_of []) (z_sorted : mg "sorted" = none) (z_tuple : mg "tuple" = none) (G_formulas_inE : PFn τ P w K mg base 2 "formulas_in" p_formulas_in spFinE) : PFn τ P w K mg base 3 "features_of" p_features_of spFeatsE := by
  refine fn_ofC F hm hk hb sc_features_of (fun ss κ h => by obtain ⟨d, n, k, W, rfl, _⟩ := h; rfl) fun cdv A outer s H E code gd hr => ?_
  refine ⟨_, (qss_one (qs_ret (qe_tuple (by rfl) z_tuple (qb_e (qe_of (qf_sortScT rfl (by rfl) z_sorted sc_features_of.nd (own := [("part", 1)]) (qi_any (qe_call G_formulas_inE gd (hr.mono (by omega)) (by rfl) (qc_e (qe_var (pv 0)) qc_nil) (apart_of (by first | decide | simp [refsOf])))) (blkOk_by (N := n_features_of) (sc := defScope s_features_of) (by decide +kernel)) (fun _ _ _ _ _ => (qv_name (i := 1) sc_features_of.nd rfl (.inl rfl) (by decide))) (fun _ _ _ _ _ => (qts_one (qt_eq (ru64 hr) (qe_ix (qe_var (pv 1)) qe_int) qe_str))) (fun _ _ _ _ _ => (qe_ix (qe_var (pv 1)) qe_int)))) qb_nil)))), fun ss κ h => ?_⟩
  obtain ⟨d, nn, kk, W, rfl, td, hc, hp, k⟩ := h
  ((conv => whnf); repeat (refine And.intro (Eq.refl _) ?_; conv => whnf))
  refine ⟨d, nn, kk, rfl, td.th, hc, fun ⟨lL, hL⟩ => ?_⟩
  have ef : featB d = sortS (Fu.allL ((dfs 10 d).flatMap ft1)) := rfl
  rw [ef] at k
  generalize dfs 10 d = L at lL hL hp k ⊢
  ((conv => whnf); repeat (refine And.intro (Eq.refl _) ?_; conv => whnf))
  refine ⟨by omega, ?_⟩
  refine lcL_pure (i := 1) (vs := [1]) (ρ := [.val d, .un]) isFt theFt (fun d => rfl) L [] (fun e he K => ?_) (fun e he hp K => ?_) ?_
  · obtain ⟨x, rest, rfl⟩ := out_shape (hL e he).1
    intro h
    ((conv => whnf); repeat (refine And.intro (Eq.refl _) ?_; conv => whnf))
    rw [at0]
    exact h
  · have ho := (hL e he).1
    obtain ⟨x, rest, rfl⟩ := out_shape ho
    have hx : x = "feature" := of_decide_eq_true hp
    subst hx
    obtain ⟨y, rfl⟩ := out_ft ho
    intro h
    exact ⟨⟨y, rfl⟩, h⟩
  · rw [List.nil_append, fts_map fun e he => (hL e he).1]
    refine ⟨_, rfl, fun L2 hL2 nd => ⟨?_, ?_⟩⟩
    · have := nodup_le nd (b := poolS) fun x hx => hp x ((hL2 x).mp hx)
      exact Nat.lt_of_le_of_lt this (by decide)
    · have e2 : sortS L2 = sortS (Fu.allL (L.flatMap ft1)) := asc_same (asc_sortS nd) (asc_sortS (allL_nodup _)) fun x => by rw [mem_sortS, mem_sortS, hL2, Fu.mem_allL]
      ((conv => whnf); repeat (refine And.intro (Eq.refl _) ?_; conv => whnf))
      rw [e2]
      exact k
def spPos : PSp := fun ss κ => ∃ (d : PyData) (n k : Nat), ss = [.val d] ∧ Th d n k ∧ cntB 10 d ≤ 400 ∧ κ (.bool (posB d)) [.un]
theorem pf_is_positive {f : Addr} {fd : FuncData} (F : Fun K "is_positive" "is_positive" s_is_positive f fd) (hm : mg "is_positive" = some (.ref f)) (hk : PySem.W.keepIn K (.ref f) = true) (hb : Binds K fd p_is_positive []) (z_all : mg "all" = none) (G_formulas_inE : PFn τ P w K mg base 2 "formulas_in" p_formulas_in spFinE) : PFn τ P w K mg base 3 "is_positive" p_is_positive spPos := by
  refine fn_ofC F hm hk hb sc_is_positive (fun ss κ h => by obtain ⟨d, n, k, rfl, _⟩ := h; rfl) fun cdv A outer s H E code gd hr => ?_
  refine ⟨_, (qss_one (qs_ret (qe_all rfl (by rfl) z_all (qb_e (qe_of (qf_lc (own := [("part", 1)]) rfl sc_is_positive.nd (qi_any (qe_call G_formulas_inE gd (hr.mono (by omega)) (by rfl) (qc_e (qe_var (pv 0)) qc_nil) (apart_of (by first | decide | simp [refsOf])))) (blkOk_by (N := n_is_positive) (sc := defScope s_is_positive) (by decide +kernel)) (fun _ _ _ _ _ => (qv_name (i := 1) sc_is_positive.nd rfl (.inl rfl) (by decide))) (fun _ _ _ _ _ => qts_nil) (fun _ _ _ _ _ => (qe_ne (ru64 hr) (qe_ix (qe_var (pv 1)) qe_int) qe_str)))) qb_nil)))), fun ss κ h => ?_⟩
  obtain ⟨d, nn, kk, rfl, td, hc, k⟩ := h
  ((conv => whnf); repeat (refine And.intro (Eq.refl _) ?_; conv => whnf))
  refine ⟨d, nn, kk, rfl, td, hc, fun ⟨lL, hL⟩ => ?_⟩
  have ef : posB d = ((dfs 10 d).map fun e => !notB e).all id := by unfold posB; rw [List.all_map]; rfl
  rw [ef] at k
  generalize dfs 10 d = L at lL hL k ⊢
  ((conv => whnf); repeat (refine And.intro (Eq.refl _) ?_; conv => whnf))
  rw [← List.map_id L]
  refine lcL_each (ρ := [.val d, .un]) id (fun e => .bool (!notB e)) L (fun e he K hK => ?_) ?_
  · obtain ⟨x, rest, rfl⟩ := out_shape (hL e he).1
    ((conv => whnf); repeat (refine And.intro (Eq.refl _) ?_; conv => whnf))
    rw [at0]
    ((conv => whnf); repeat (refine And.intro (Eq.refl _) ?_; conv => whnf))
    exact hK
  · ((conv => whnf); repeat (refine And.intro (Eq.refl _) ?_; conv => whnf))
    refine ⟨L.map fun e => !notB e, by rw [List.map_map]; rfl, ?_⟩
    exact k
end
end L2.Pu

set_option Elab.async false
set_option linter.all false
set_option maxRecDepth 100000
set_option maxHeartbeats 4000000
namespace L2.Pu
open PySem PySem.Spec PyProof.Rows
mutual
/-- a formula over the names N, with any number of parts -/
def okV (N : List Str) : Fo → Prop
  | .ft x => x ∈ N
  | .nd h ps => h ∈ heads ∧ (h = "not" → ps.length = 1) ∧ okVs N ps
def okVs (N : List Str) : List Fo → Prop
  | [] => True
  | f :: fs => okV N f ∧ okVs N fs
end
theorem okVs_iff (N : List Str) : ∀ ps : List Fo, okVs N ps ↔ ∀ f ∈ ps, okV N f
  | [] => by simp [okVs]
  | f :: fs => by simp only [okVs, okVs_iff N fs, List.mem_cons, forall_eq_or_imp]
theorem okV_nd {N : List Str} {h : Str} {ps : List Fo} : okV N (.nd h ps) ↔ h ∈ heads ∧ (h = "not" → ps.length = 1) ∧ ∀ f ∈ ps, okV N f := by simp only [okV, okVs_iff]
structure OkV (N : List Str) (is : Its) : Prop where
  few : is.length ≤ 12
  rows : ∀ i ∈ is, ∀ r ∈ i.2, okV N r.1 ∧ tall r.1 ≤ 5 ∧ 0 ≤ r.2 ∧ r.2 ≤ 99
section
variable {P : Program} {w : World} {K : PySem.W.Frag} {mg : Str → Option Value} {base : Heap} {τ : Tb}
def spPartsV : PSp := fun ss κ => ∃ (N : List Str) (f : Fo), ss = [.val (fD f)] ∧ okV N f ∧ κ (.tuple ((parts f).map fD)) [.un]
def spHoldsV (n : Nat) : PSp := fun ss κ => ∃ (N S : List Str) (f : Fo), ss = [.val (fD f), .val (tupS S)] ∧ okV N f ∧ tall f ≤ n ∧ κ (.bool (hold S f)) [.un, .un]
theorem pf_parts_ofV {f : Addr} {fd : FuncData} (F : Fun K "parts_of" "parts_of" s_parts_of f fd) (hm : mg "parts_of" = some (.ref f)) (hk : PySem.W.keepIn K (.ref f) = true) (hb : Binds K fd p_parts_of []) : PFn τ P w K mg base 1 "parts_of" p_parts_of spPartsV := by
  refine fn_ofC F hm hk hb sc_parts_of (fun ss κ h => by obtain ⟨N, f, rfl, _⟩ := h; rfl) fun cdv A outer s H E code gd hr => ?_
  refine ⟨_, (qss_cons (qs_if (qt_eq (ru64 hr) (qe_ix (qe_var (pv 0)) qe_int) qe_str) (qss_one (qs_ret (qe_tup qa_nil))) qss_nil)
      (qss_one (qs_ret (qe_slice (qe_var (pv 0)) (qo_some qe_int) qo_none)))), fun ss κ h => ?_⟩
  obtain ⟨N, f, rfl, ok, k⟩ := h
  cases f with
  | ft x =>
    rw [fD_ft]
    ((conv => whnf); repeat (refine And.intro (Eq.refl _) ?_; conv => whnf))
    exact k
  | nd h ps =>
    have nf := heads_nf (okV_nd.mp ok).1
    rw [fD_nd]
    ((conv => whnf); repeat (refine And.intro (Eq.refl _) ?_; conv => whnf))
    rw [at0]
    ((conv => whnf); repeat (refine And.intro (Eq.refl _) ?_; conv => whnf))
    rw [decide_eq_false nf]
    ((conv => whnf); repeat (refine And.intro (Eq.refl _) ?_; conv => whnf))
    rw [cut1]
    exact k
theorem pf_holdsV {f : Addr} {fd : FuncData} (F : Fun K "holds" "holds" s_holds f fd) (hm : mg "holds" = some (.ref f)) (hk : PySem.W.keepIn K (.ref f) = true) (hb : Binds K fd p_holds []) (z_all : mg "all" = none) (z_any : mg "any" = none) (G_parts_of : PFn τ P w K mg base 1 "parts_of" p_parts_of spPartsV) : ∀ n : Nat, PFn τ P w K mg base (n + 2) "holds" p_holds (spHoldsV n) := by
  intro n
  induction n with
  | zero =>
    refine fn_ofC F hm hk hb sc_holds (fun ss κ h => by obtain ⟨N, S, f, rfl, _⟩ := h; rfl) fun cdv A outer s H E code gd hr => ?_
    refine ⟨_, qss_no', fun ss κ h => ?_⟩
    obtain ⟨N, S, f, rfl, _, t, _⟩ := h
    have := tall_pos f
    omega
  | succ n G_holds =>
  refine fn_ofC F hm hk hb sc_holds (fun ss κ h => by obtain ⟨N, S, f, rfl, _⟩ := h; rfl) fun cdv A outer s H E code gd hr => ?_
  refine ⟨_, (qss_cons (qs_set (i := 2) sc_holds.nd rfl (.inl rfl) (qe_ix (qe_var (pv 0)) qe_int))
      (qss_cons (qs_if (qt_eq (ru64 hr) (qe_var (pv 2)) qe_str) (qss_one (qs_ret (qe_in (ru65 hr) (qe_ix (qe_var (pv 0)) qe_int) (qe_var (pv 1))))) qss_nil)
      (qss_cons (qs_setLc (i := 3) (own := [("part", 4)]) rfl sc_holds.nd rfl rfl rfl (qi_any (qe_call G_parts_of gd (hr.mono (by omega)) (by rfl) (qc_e (qe_var (pv 0)) qc_nil) (apart_of (by first | decide | simp [refsOf])))) (blkOk_by (N := n_holds) (sc := defScope s_holds) (by decide +kernel)) (fun _ _ _ _ _ => (qv_name (i := 4) sc_holds.nd rfl (.inl rfl) (by decide))) (fun _ _ _ _ _ => qts_nil) (fun _ _ _ _ _ => (qe_call G_holds gd (hr.mono (by omega)) (by rfl) (qc_e (qe_var (pv 4)) (qc_e (qe_var (pv 1)) qc_nil)) (apart_of (by first | decide | simp [refsOf])))))
      (qss_cons (qs_if (qt_eq (ru64 hr) (qe_var (pv 2)) qe_str) (qss_one (qs_ret (qe_not (qe_ix (qe_var (pv 3)) qe_int)))) qss_nil)
      (qss_cons (qs_if (qt_eq (ru64 hr) (qe_var (pv 2)) qe_str) (qss_one (qs_ret (qe_all rfl (by rfl) z_all (qb_e (qe_var (pv 3)) qb_nil)))) qss_nil)
      (qss_one (qs_ret (qe_any rfl (by rfl) z_any (qb_e (qe_var (pv 3)) qb_nil))))))))), fun ss κ h => ?_⟩
  obtain ⟨N, S, f, rfl, ok, tl, k⟩ := h
  cases f with
  | ft x =>
    rw [hold_ft] at k
    rw [fD_ft]
    ((conv => whnf); repeat (refine And.intro (Eq.refl _) ?_; conv => whnf))
    refine ⟨.inl ?_, ?_⟩
    · rw [flat_strs]; rfl
    · rw [any_eqv_strs]; exact k
  | nd h ps =>
    obtain ⟨hh, h1, oks⟩ := okV_nd.mp ok
    have tls := tall_nd.mp tl
    have nf := heads_nf hh
    have e0 : fD (.nd h ps) = .tuple (.str h :: ps.map fD) := fD_nd h ps
    rw [hold_nd] at k
    rw [e0]
    ((conv => whnf); repeat (refine And.intro (Eq.refl _) ?_; conv => whnf))
    rw [at0]
    ((conv => whnf); repeat (refine And.intro (Eq.refl _) ?_; conv => whnf))
    rw [decide_eq_false nf]
    ((conv => whnf); repeat (refine And.intro (Eq.refl _) ?_; conv => whnf))
    refine ⟨N, .nd h ps, by rw [e0], ok, ?_⟩
    ((conv => whnf); repeat (refine And.intro (Eq.refl _) ?_; conv => whnf))
    refine lcL_by (fun ds acc ρ => ∃ done rest : List Fo, ps = done ++ rest ∧ ds = rest.map fD ∧ acc = (done.map (hold S)).map PyData.bool ∧ ρ = [.val (.tuple (.str h :: ps.map fD)), .val (tupS S), .val (.str h), .un, .un]) ?_ ?_ _ _ _ ⟨[], ps, rfl, rfl, rfl, rfl⟩
    · rintro acc ρ ⟨done, rest, e, hd, rfl, rfl⟩
      cases rest with
      | cons => cases hd
      | nil =>
        rw [List.append_nil] at e; subst e
        rcases heads_cases hh with rfl | rfl | rfl
        · rw [if_neg (by decide +kernel), if_pos rfl] at k
          ((conv => whnf); repeat (refine And.intro (Eq.refl _) ?_; conv => whnf))
          exact ⟨_, rfl, k⟩
        · rw [if_neg (by decide +kernel), if_neg (by decide +kernel)] at k
          ((conv => whnf); repeat (refine And.intro (Eq.refl _) ?_; conv => whnf))
          exact ⟨_, rfl, k⟩
        · have l1 := h1 rfl
          match ps, l1, k with
          | [g], _, k =>
            rw [if_pos rfl] at k
            ((conv => whnf); repeat (refine And.intro (Eq.refl _) ?_; conv => whnf))
            exact k
    · rintro d ds acc ρ ⟨done, rest, e, hd, rfl, rfl⟩
      cases rest with
      | nil => cases hd
      | cons g rest =>
        cases hd
        have hg : g ∈ ps := by rw [e]; exact List.mem_append_right _ List.mem_cons_self
        ((conv => whnf); repeat (refine And.intro (Eq.refl _) ?_; conv => whnf))
        refine ⟨N, S, g, rfl, oks g hg, tls g hg, ?_⟩
        ((conv => whnf); repeat (refine And.intro (Eq.refl _) ?_; conv => whnf))
        exact ⟨done ++ [g], rest, by rw [e, List.append_assoc]; rfl, rfl, by rw [List.map_append, List.map_append]; rfl, rfl⟩
def spVerV : PSp := fun ss κ => ∃ (N S : List Str) (rs : Rw), ss = [.val (.tuple (rs.map rwD)), .val (tupS S)] ∧ (∀ r ∈ rs, okV N r.1 ∧ tall r.1 ≤ 5) ∧ κ (optD (verOf S rs)) [.un, .un]
def spViewAtV : PSp := fun ss κ => ∃ (N S : List Str) (m : Man) (is : Its), ss = [.val (libD m is), .val (tupS S)] ∧ OkV N is ∧ κ (.tuple ((viewL is S).map prD)) [.un, .un]
def spViewV : PSp := fun ss κ => ∃ (N r : List Str) (m : Man) (is : Its), ss = [.val (libD m is), .val (tupS r)] ∧ Wf m ∧ Req m r ∧ OkV N is ∧ κ (.tuple ((viewL is (clo m r)).map prD)) [.un, .un]
end
end L2.Pu

set_option Elab.async false
set_option linter.all false
set_option maxRecDepth 100000
set_option maxHeartbeats 4000000
namespace L2.Pu
open PySem PySem.Spec PyProof.Rows
def infB (p : List Nat) : List Nat → Bool
  | [] => p.isEmpty
  | a :: t => p.isPrefixOf (a :: t) || infB p t
theorem infB_iff (p : List Nat) : ∀ l : List Nat, infB p l = true ↔ p <:+: l
  | [] => by unfold infB; rw [List.isEmpty_iff, List.infix_nil]
  | a :: t => by
    unfold infB
    rw [Bool.or_eq_true, List.isPrefixOf_iff_prefix, infB_iff p t, List.infix_cons_iff]
theorem infB_no {p l : List Nat} (h : infB p l = false) : ¬ p <:+: l := fun z => by rw [(infB_iff p l).mpr z] at h; cases h
/-- 'not', ( -/
def patN : List Nat := [39, 110, 111, 116, 39, 44, 32, 40]
theorem infix_cut {p a b : List Nat} (h : p <:+: a ++ b) : p <:+: a ∨ p <:+: b ∨ ∃ x y, p = x ++ y ∧ x ≠ [] ∧ y ≠ [] ∧ x <:+ a ∧ y <+: b := by
  obtain ⟨s, t, e⟩ := h
  rw [List.append_assoc] at e
  rcases List.append_eq_append_iff.mp e with ⟨a', rfl, h2⟩ | ⟨c', rfl, h2⟩
  · rcases List.append_eq_append_iff.mp h2 with ⟨x, rfl, h3⟩ | ⟨y, h3, h4⟩
    · exact .inl ⟨s, x, by simp⟩
    · by_cases hx : a' = []
      · subst hx
        exact .inr (.inl ⟨[], t, by rw [h4, h3]; rfl⟩)
      · by_cases hy : y = []
        · subst hy
          exact .inl ⟨s, [], by rw [h3]; simp⟩
        · exact .inr (.inr ⟨a', y, h3, hx, hy, ⟨s, rfl⟩, ⟨t, h4.symm⟩⟩)
  · exact .inr (.inl ⟨c', t, by rw [h2, List.append_assoc]⟩)
theorem last_app {a b : List Nat} (h : b ≠ []) : (a ++ b).getLast? = b.getLast? := by
  rw [List.getLast?_append]
  cases e : b.getLast? with
  | none => exact absurd (List.getLast?_eq_none_iff.mp e) h
  | some x => rfl
theorem infix_close {a b : List Nat} (ha : a.getLast? = some 41) (h : patN <:+: a ++ b) : patN <:+: a ∨ patN <:+: b := by
  rcases infix_cut h with h | h | ⟨x, y, e, hx, _, ⟨s, rfl⟩, _⟩
  · exact .inl h
  · exact .inr h
  · exfalso
    rw [last_app hx] at ha
    have m : (41 : Nat) ∈ x := List.mem_of_getLast? ha
    have : (41 : Nat) ∈ patN := by rw [e]; exact List.mem_append_left _ m
    exact absurd this (by decide)
theorem infix_open {c b : List Nat} (hb : b.head? = some 40) (hc : infB patN c = false) (hs : ¬ (patN.take 7) <:+ c) (h : patN <:+: c ++ b) : patN <:+: b := by
  rcases infix_cut h with h | h | ⟨x, y, e, _, hy, sx, ⟨t, rfl⟩⟩
  · exact absurd h (infB_no hc)
  · exact h
  · exfalso
    cases y with
    | nil => exact hy rfl
    | cons a y =>
      have ea : a = 40 := by simpa using hb
      subst ea
      have g : patN[x.length]? = some 40 := by rw [e, List.getElem?_append_right (Nat.le_refl _), Nat.sub_self]; rfl
      have lx : x.length = 7 := by
        have key : ∀ i : Nat, patN[i]? = some 40 → i = 7 := fun i hi => by
          match i, hi with
          | 7, _ => rfl
          | 0, h => exact absurd h (by decide)
          | 1, h => exact absurd h (by decide)
          | 2, h => exact absurd h (by decide)
          | 3, h => exact absurd h (by decide)
          | 4, h => exact absurd h (by decide)
          | 5, h => exact absurd h (by decide)
          | 6, h => exact absurd h (by decide)
          | n + 8, h => exact absurd h (by rw [List.getElem?_eq_none (by show 8 ≤ n + 8; omega)]; exact fun z => nomatch z)
        exact key _ g
      have ex : patN.take 7 = x := by rw [e, ← lx, List.take_left']; rfl
      rw [ex] at hs
      exact hs sx
mutual
/-- without a not -/
def plusF : Fo → Bool
  | .ft _ => true
  | .nd h ps => decide (h ≠ "not") && plusFs ps
def plusFs : List Fo → Bool
  | [] => true
  | f :: fs => plusF f && plusFs fs
end
theorem plusFs_all : ∀ ps : List Fo, plusFs ps = ps.all plusF
  | [] => by simp only [plusFs, List.all_nil]
  | f :: fs => by simp only [plusFs, List.all_cons, plusFs_all fs]
theorem plus_nd (h : Str) (ps : List Fo) : plusF (.nd h ps) = (decide (h ≠ "not") && ps.all plusF) := by simp only [plusF, plusFs_all]
def txL (x : Str) : List Nat := x.cps.toList
def shL (f : Fo) : List Nat := txL (fD f).shown
theorem app_L (a b : Str) : txL (a ++ b) = txL a ++ txL b := by
  show (a.cps ++ b.cps).toList = _
  exact Array.toList_append
theorem shownAll_map : ∀ ds : List PyData, PyData.shownAll ds = ds.map PyData.shown
  | [] => by simp only [PyData.shownAll, List.map_nil]
  | d :: ds => by simp only [PyData.shownAll, List.map_cons, shownAll_map ds]
theorem join_L : ∀ (t : Str) (ts : List Str), txL (Str.join ", " (t :: ts)) = txL t ++ ts.flatMap fun u => [44, 32] ++ txL u
  | t, [] => by rw [List.flatMap_nil, List.append_nil]; rfl
  | t, u :: ts => by
    show txL (t ++ (", " : Str) ++ Str.join ", " (u :: ts)) = _
    rw [app_L, app_L, join_L u ts, List.flatMap_cons, show txL (", " : Str) = [44, 32] from by decide +kernel]
    simp only [List.append_assoc]
theorem sh_nd (h : Str) (ps : List Fo) : shL (.nd h ps) = [40] ++ txL (reprText h) ++ (ps.flatMap fun g => [44, 32] ++ shL g) ++ (if ps = [] then [44, 41] else [41]) := by
  unfold shL
  rw [fD_nd]
  simp only [PyData.shown]
  unfold tupleText
  rw [app_L, app_L, shownAll_map, List.map_cons, join_L, List.map_map, show (PyData.str h).shown = reprText h from by simp only [PyData.shown], show txL ("(" : Str) = [40] from by decide +kernel, List.flatMap_map]
  have e : txL ((if (reprText h :: ps.map (PyData.shown ∘ fD)).length == 1 then ",)" else ")" : String) : Str) = if ps = [] then [44, 41] else [41] := by
    cases ps with
    | nil => rw [if_pos rfl]; exact (by decide +kernel : txL (",)" : Str) = [44, 41])
    | cons p ps => rw [if_neg (by simp)]; exact (by decide +kernel : txL (")" : Str) = [41])
  rw [e]
  simp only [List.append_assoc, Function.comp_apply]
theorem ft_ten : ∀ x ∈ ten, infB patN (shL (.ft x)) = false ∧ (shL (.ft x)).head? = some 40 ∧ (shL (.ft x)).getLast? = some 41 := by
  have : (ten.all fun x => !infB patN (shL (.ft x)) && (decide ((shL (.ft x)).head? = some 40) && decide ((shL (.ft x)).getLast? = some 41))) = true := by decide +kernel
  intro x hx
  have := List.all_eq_true.mp this x hx
  simpa using this
/-- how it begins, how it ends, and whether a not stands in it -/
structure Ends (f : Fo) : Prop where
  hd : (shL f).head? = some 40
  lst : (shL f).getLast? = some 41
  has : patN <:+: shL f ↔ plusF f = false
theorem ends_rest : ∀ {ps : List Fo}, (∀ g ∈ ps, Ends g) → (patN <:+: ((ps.flatMap fun g => [44, 32] ++ shL g) ++ [41]) ↔ ps.all plusF = false)
  | [], _ => ⟨fun z => absurd z (infB_no (by decide +kernel)), fun z => by cases z⟩
  | g :: ps, h => by
    have hg := h g List.mem_cons_self
    have ih := ends_rest fun p hp => h p (List.mem_cons_of_mem _ hp)
    have e : ((g :: ps).flatMap fun g => [44, 32] ++ shL g) ++ [41] = ([44, 32] ++ shL g) ++ ((ps.flatMap fun g => [44, 32] ++ shL g) ++ [41]) := by rw [List.flatMap_cons, List.append_assoc]
    have ne : shL g ≠ [] := fun z => by have := hg.hd; rw [z] at this; cases this
    rw [e, List.all_cons, Bool.and_eq_false_iff]
    constructor
    · intro z
      rcases infix_close (by rw [last_app ne]; exact hg.lst) z with z | z
      · exact .inl (hg.has.mp (infix_open hg.hd (by decide +kernel) (by decide +kernel) z))
      · exact .inr (ih.mp z)
    · rintro (z | z)
      · obtain ⟨s, t, e⟩ := hg.has.mpr z
        exact ⟨[44, 32] ++ s, t ++ ((ps.flatMap fun g => [44, 32] ++ shL g) ++ [41]), by rw [← e]; simp only [List.append_assoc]⟩
      · obtain ⟨s, t, e⟩ := ih.mpr z
        exact ⟨([44, 32] ++ shL g) ++ s, t, by rw [← e]; simp only [List.append_assoc]⟩
theorem ends_nd {h : Str} {ps : List Fo} (hh : h ∈ heads) (h1 : h = "not" → ps.length = 1) (hp : ∀ g ∈ ps, Ends g) : Ends (.nd h ps) := by
  have e := sh_nd h ps
  rw [show txL (reprText h) = txL (reprText h) from rfl] at e
  refine ⟨by rw [e]; simp, ?_, ?_⟩
  · rw [e, last_app (by split <;> simp)]
    split <;> rfl
  · rw [plus_nd]
    cases ps with
    | nil =>
      rw [e, List.all_nil, Bool.and_true]
      rcases heads_cases hh with rfl | rfl | rfl
      · exact ⟨fun z => absurd z (infB_no (by decide +kernel)), fun z => absurd z (by decide +kernel)⟩
      · exact ⟨fun z => absurd z (infB_no (by decide +kernel)), fun z => absurd z (by decide +kernel)⟩
      · exact absurd (h1 rfl) (by decide)
    | cons g ps =>
      have hg := hp g List.mem_cons_self
      have hr := ends_rest fun p hq => hp p (List.mem_cons_of_mem _ hq)
      have ne : shL g ≠ [] := fun z => by have := hg.hd; rw [z] at this; cases this
      rw [if_neg (by simp), List.flatMap_cons] at e
      have e2 : shL (.nd h (g :: ps)) = (([40] ++ txL (reprText h) ++ [44, 32]) ++ shL g) ++ ((ps.flatMap fun g => [44, 32] ++ shL g) ++ [41]) := by rw [e]; simp only [List.append_assoc]
      rw [e2, List.all_cons]
      have back : (g :: ps).all plusF = false → patN <:+: (([40] ++ txL (reprText h) ++ [44, 32]) ++ shL g) ++ ((ps.flatMap fun g => [44, 32] ++ shL g) ++ [41]) := fun z => by
        rw [List.all_cons, Bool.and_eq_false_iff] at z
        rcases z with z | z
        · obtain ⟨s, t, e⟩ := hg.has.mpr z
          exact ⟨([40] ++ txL (reprText h) ++ [44, 32]) ++ s, t ++ ((ps.flatMap fun g => [44, 32] ++ shL g) ++ [41]), by rw [← e]; simp only [List.append_assoc]⟩
        · obtain ⟨s, t, e⟩ := hr.mpr z
          exact ⟨(([40] ++ txL (reprText h) ++ [44, 32]) ++ shL g) ++ s, t, by rw [← e]; simp only [List.append_assoc]⟩
      have forth : infB patN ([40] ++ txL (reprText h) ++ [44, 32]) = false → ¬ (patN.take 7) <:+ ([40] ++ txL (reprText h) ++ [44, 32]) → patN <:+: (([40] ++ txL (reprText h) ++ [44, 32]) ++ shL g) ++ ((ps.flatMap fun g => [44, 32] ++ shL g) ++ [41]) → (plusF g && ps.all plusF) = false := fun a b z => by
        rw [Bool.and_eq_false_iff]
        rcases infix_close (by rw [last_app ne]; exact hg.lst) z with z | z
        · exact .inl (hg.has.mp (infix_open hg.hd a b z))
        · exact .inr (hr.mp z)
      rcases heads_cases hh with rfl | rfl | rfl
      · rw [show decide (("all" : Str) ≠ "not") = true from by decide +kernel, Bool.true_and]
        exact ⟨forth (by decide +kernel) (by decide +kernel), fun z => back (by rw [List.all_cons]; exact z)⟩
      · rw [show decide (("any" : Str) ≠ "not") = true from by decide +kernel, Bool.true_and]
        exact ⟨forth (by decide +kernel) (by decide +kernel), fun z => back (by rw [List.all_cons]; exact z)⟩
      · rw [show decide (("not" : Str) ≠ "not") = false from by decide +kernel, Bool.false_and]
        refine ⟨fun _ => rfl, fun _ => ?_⟩
        obtain ⟨a, t, et⟩ : ∃ a t, shL g = a :: t := List.exists_cons_of_ne_nil ne
        have ha : a = 40 := by have := hg.hd; rw [et] at this; simpa using this
        subst ha
        refine ⟨[40], t ++ ((ps.flatMap fun g => [44, 32] ++ shL g) ++ [41]), ?_⟩
        rw [et, show ([40] ++ txL (reprText "not") ++ [44, 32] : List Nat) = [40] ++ patN.take 7 from by decide +kernel]
        show [40] ++ patN ++ _ = _
        rw [show patN = patN.take 7 ++ [40] from by decide]
        simp only [List.append_assoc]
        rfl
theorem ends_all {N : List Str} (hN : ∀ x ∈ N, x ∈ ten) : ∀ (n : Nat) (f : Fo), tall f ≤ n → okV N f → Ends f
  | 0, f, t, _ => by have := tall_pos f; omega
  | n + 1, .ft x, _, o => by
    have hx : x ∈ N := by simpa only [okV] using o
    obtain ⟨a, b, c⟩ := ft_ten x (hN x hx)
    exact ⟨b, c, ⟨fun z => absurd z (infB_no a), fun z => by simp only [plusF] at z; cases z⟩⟩
  | n + 1, .nd h ps, t, o => by
    obtain ⟨hh, h1, oks⟩ := okV_nd.mp o
    exact ends_nd hh h1 fun g hg => ends_all hN n g (tall_nd.mp t g hg) (oks g hg)
theorem in_text {f : Fo} (h : Ends f) : (Builtin.Str.occurrences (fD f).shown "'not', (" 0 (fD f).shown.length 1).isEmpty = plusF f := by
  have k := PySem.StrLaws.found_iff (fD f).shown "'not', ("
  have k2 : (∃ i, i + ("'not', (" : Str).length ≤ (fD f).shown.length ∧ Builtin.Str.subAt (fD f).shown "'not', (" i = true) ↔ patN <:+: shL f := by
    constructor
    · rintro ⟨i, _, hs⟩
      rw [PySem.StrLaws.subAt_eq, beq_iff_eq, show ("'not', (" : Str).cps.toList = patN from by decide +kernel] at hs
      exact ⟨(shL f).take i, ((shL f).drop i).drop ("'not', (" : Str).length, by
        rw [List.append_assoc, ← hs]
        show List.take i (shL f) ++ (List.take _ (List.drop i (shL f)) ++ _) = _
        rw [List.take_append_drop, List.take_append_drop]⟩
    · rintro ⟨s, t, e⟩
      have el : (fD f).shown.length = (shL f).length := by show (fD f).shown.cps.size = (fD f).shown.cps.toList.length; rw [Array.length_toList]
      refine ⟨s.length, ?_, ?_⟩
      · rw [el, ← e]
        simp only [List.length_append]
        rw [show ("'not', (" : Str).length = patN.length from by decide +kernel]
        omega
      · rw [PySem.StrLaws.subAt_eq, beq_iff_eq, show ("'not', (" : Str).cps.toList = patN from by decide +kernel, show ("'not', (" : Str).length = patN.length from by decide +kernel]
        show ((shL f).drop s.length).take patN.length = patN
        rw [← e, List.append_assoc, List.drop_left, List.take_left]
  rw [k2, h.has] at k
  cases hp : plusF f with
  | true =>
    cases hi : (Builtin.Str.occurrences (fD f).shown "'not', (" 0 (fD f).shown.length 1).isEmpty with
    | true => rfl
    | false => rw [hi, hp] at k; exact absurd (k.mp rfl) (by decide)
  | false =>
    have := k.mpr hp
    rw [Bool.not_eq_true'] at this
    exact this
end L2.Pu

set_option Elab.async false
set_option linter.all false
set_option maxRecDepth 100000
set_option maxHeartbeats 4000000
namespace L2.Pu
open PySem PySem.Spec PyProof.Rows
mutual
/-- the features, as they stand -/
def ftF : Fo → List Str
  | .ft x => [x]
  | .nd _ ps => ftFs ps
def ftFs : List Fo → List Str
  | [] => []
  | f :: fs => ftF f ++ ftFs fs
end
theorem ftFs_flat : ∀ ps : List Fo, ftFs ps = ps.flatMap ftF
  | [] => by simp only [ftFs, List.flatMap_nil]
  | f :: fs => by simp only [ftFs, List.flatMap_cons, ftFs_flat fs]
theorem ftF_nd (h : Str) (ps : List Fo) : ftF (.nd h ps) = ps.flatMap ftF := by simp only [ftF, ftFs_flat]
theorem out_nd {h : Str} {ps : List Fo} (hh : h ∈ heads) (h1 : h = "not" → ps.length = 1) : outB (fD (.nd h ps)) = true ∧ partB (fD (.nd h ps)) = ps.map fD := by
  rw [fD_nd, out_eq, part_eq, if_neg (heads_nf hh), if_neg (heads_nf hh)]
  refine ⟨?_, rfl⟩
  by_cases hn : h = "not"
  · rw [if_pos hn, List.length_map, h1 hn]; rfl
  · rw [if_neg hn]
    rcases heads_cases hh with rfl | rfl | rfl
    · rfl
    · rfl
    · exact absurd rfl hn
theorem cnt_nd (n : Nat) {h : Str} {ps : List Fo} (hh : h ∈ heads) (h1 : h = "not" → ps.length = 1) : cntB (n + 1) (fD (.nd h ps)) = 1 + (ps.map fun g => cntB n (fD g)).sum := by
  obtain ⟨a, b⟩ := out_nd hh h1
  have e : cntB (n + 1) (fD (.nd h ps)) = if outB (fD (.nd h ps)) = true then 1 + ((partB (fD (.nd h ps))).map (cntB n)).sum else 10000 := rfl
  rw [e, if_pos a, b, List.map_map]; rfl
theorem sum_mem {l : List Nat} {x : Nat} (h : x ∈ l) : x ≤ l.sum := by
  induction l with
  | nil => cases h
  | cons a l ih =>
    rw [List.sum_cons]
    rcases List.mem_cons.mp h with rfl | h
    · omega
    · have := ih h; omega
/-- so few formulas, so low -/
structure Fw (N : List Str) (n : Nat) (f : Fo) : Prop where
  ok : okV N f
  few : cntB n (fD f) ≤ 400
theorem Fw.part {N : List Str} {n : Nat} {h : Str} {ps : List Fo} (w : Fw N (n + 1) (.nd h ps)) : ∀ g ∈ ps, Fw N n g := fun g hg => by
  obtain ⟨hh, h1, oks⟩ := okV_nd.mp w.ok
  have few := w.few
  rw [cnt_nd n hh h1] at few
  have := sum_mem (List.mem_map.mpr ⟨g, hg, rfl⟩ : cntB n (fD g) ∈ ps.map fun g => cntB n (fD g))
  exact ⟨oks g hg, by omega⟩
theorem Fw.tall {N : List Str} : ∀ {n : Nat} {f : Fo}, Fw N n f → L2.Pu.tall f ≤ n
  | 0, f, w => by have := w.few; rw [show cntB 0 (fD f) = 10000 from rfl] at this; omega
  | n + 1, .ft x, _ => by simp only [L2.Pu.tall]; omega
  | n + 1, .nd h ps, w => tall_nd.mpr fun g hg => (w.part g hg).tall
theorem Fw.fts {N : List Str} : ∀ {n : Nat} {f : Fo}, Fw N n f → (ftF f).length ≤ cntB n (fD f)
  | 0, f, w => by have := w.few; rw [show cntB 0 (fD f) = 10000 from rfl] at this; omega
  | n + 1, .ft x, _ => by
    have := cnt_pos (n + 1) (fD (.ft x))
    simp only [ftF, List.length_singleton]; omega
  | n + 1, .nd h ps, w => by
    obtain ⟨hh, h1, oks⟩ := okV_nd.mp w.ok
    rw [cnt_nd n hh h1, ftF_nd, List.length_flatMap]
    have key : ∀ qs : List Fo, (∀ g ∈ qs, Fw N n g) → (qs.map fun g => (ftF g).length).sum ≤ (qs.map fun g => cntB n (fD g)).sum := fun qs => by
      induction qs with
      | nil => intro _; exact Nat.le_refl _
      | cons g qs ih =>
        intro hq
        have a := (hq g List.mem_cons_self).fts
        have b := ih fun p hp => hq p (List.mem_cons_of_mem _ hp)
        rw [List.map_cons, List.map_cons, List.sum_cons, List.sum_cons]; omega
    have := key ps w.part
    omega
theorem ftF_in {N : List Str} : ∀ (n : Nat) (f : Fo), L2.Pu.tall f ≤ n → okV N f → ∀ x ∈ ftF f, x ∈ N
  | 0, f, t, _ => by have := tall_pos f; omega
  | n + 1, .ft x, _, o => fun y hy => by
    have hx : x ∈ N := by simpa only [okV] using o
    simp only [ftF, List.mem_singleton] at hy
    exact hy ▸ hx
  | n + 1, .nd h ps, t, o => fun y hy => by
    obtain ⟨_, _, oks⟩ := okV_nd.mp o
    rw [ftF_nd] at hy
    obtain ⟨g, hg, hy⟩ := List.mem_flatMap.mp hy
    exact ftF_in n g (tall_nd.mp t g hg) (oks g hg) y hy
theorem dfs_fts {N : List Str} : ∀ (n : Nat) (f : Fo), L2.Pu.tall f ≤ n → okV N f → ∀ x, x ∈ (dfs n (fD f)).flatMap ft1 ↔ x ∈ ftF f
  | 0, f, t, _ => by have := tall_pos f; omega
  | n + 1, .ft y, _, _ => fun x => by
    have e : dfs (n + 1) (fD (.ft y)) = [fD (.ft y)] := by
      show fD (.ft y) :: (partB (fD (.ft y))).reverse.flatMap (dfs n) = _
      rw [fD_ft, part_eq, if_pos rfl]; rfl
    rw [e, fD_ft, List.flatMap_cons, List.flatMap_nil, List.append_nil]
    simp [ft1, ftF]
  | n + 1, .nd h ps, t, o => fun x => by
    obtain ⟨hh, h1, oks⟩ := okV_nd.mp o
    have e : dfs (n + 1) (fD (.nd h ps)) = fD (.nd h ps) :: (ps.map fD).reverse.flatMap (dfs n) := by
      show fD (.nd h ps) :: (partB (fD (.nd h ps))).reverse.flatMap (dfs n) = _
      rw [(out_nd hh h1).2]
    have e0 : ft1 (fD (.nd h ps)) = [] := by
      rw [fD_nd]
      unfold ft1
      split
      · rename_i heq
        simp only [PyData.tuple.injEq, List.cons.injEq, PyData.str.injEq] at heq
        rw [if_neg (by rw [← heq.1]; exact heads_nf hh)]
      · rfl
    rw [e, List.flatMap_cons, e0, List.nil_append, ftF_nd, List.flatMap_assoc, List.mem_flatMap, List.mem_flatMap]
    constructor
    · rintro ⟨d, hd, hx⟩
      obtain ⟨g, hg, rfl⟩ := List.mem_map.mp (List.mem_reverse.mp hd)
      exact ⟨g, hg, (dfs_fts n g (tall_nd.mp t g hg) (oks g hg) x).mp hx⟩
    · rintro ⟨g, hg, hx⟩
      exact ⟨fD g, List.mem_reverse.mpr (List.mem_map.mpr ⟨g, hg, rfl⟩), (dfs_fts n g (tall_nd.mp t g hg) (oks g hg) x).mpr hx⟩
theorem dfs_plus {N : List Str} : ∀ (n : Nat) (f : Fo), L2.Pu.tall f ≤ n → okV N f → ((dfs n (fD f)).all fun e => !notB e) = plusF f
  | 0, f, t, _ => by have := tall_pos f; omega
  | n + 1, .ft y, _, _ => by
    have e : dfs (n + 1) (fD (.ft y)) = [fD (.ft y)] := by
      show fD (.ft y) :: (partB (fD (.ft y))).reverse.flatMap (dfs n) = _
      rw [fD_ft, part_eq, if_pos rfl]; rfl
    rw [e, fD_ft]
    simp only [plusF]
    exact (by decide +kernel : ([PyData.tuple [.str "feature", .str ""]].all fun e => !notB e) = true)
  | n + 1, .nd h ps, t, o => by
    obtain ⟨hh, h1, oks⟩ := okV_nd.mp o
    have e : dfs (n + 1) (fD (.nd h ps)) = fD (.nd h ps) :: (ps.map fD).reverse.flatMap (dfs n) := by
      show fD (.nd h ps) :: (partB (fD (.nd h ps))).reverse.flatMap (dfs n) = _
      rw [(out_nd hh h1).2]
    rw [e, List.all_cons, plus_nd]
    have e1 : (!notB (fD (.nd h ps))) = decide (h ≠ "not") := by
      rw [fD_nd]
      show (!decide (h = "not")) = _
      rw [decide_not]
    rw [e1]
    congr 1
    rw [Bool.eq_iff_iff, List.all_eq_true, List.all_eq_true]
    have key : ∀ g ∈ ps, ((∀ d ∈ dfs n (fD g), (!notB d) = true) ↔ plusF g = true) := fun g hg => by
      rw [← dfs_plus n g (tall_nd.mp t g hg) (oks g hg), List.all_eq_true]
    constructor
    · intro a g hg
      exact (key g hg).mp fun d hd => a d (List.mem_flatMap.mpr ⟨fD g, List.mem_reverse.mpr (List.mem_map.mpr ⟨g, hg, rfl⟩), hd⟩)
    · intro a d hd
      obtain ⟨b, hb, hd⟩ := List.mem_flatMap.mp hd
      obtain ⟨g, hg, rfl⟩ := List.mem_map.mp (List.mem_reverse.mp hb)
      exact (key g hg).mpr (a g hg) d hd
section
variable {P : Program} {w : World} {K : PySem.W.Frag} {mg : Str → Option Value} {base : Heap} {τ : Tb}
theorem pf_L_holdsV {f : Addr} {fd : FuncData} (F : Fun K "_law_holds" "_law_holds" s_L_holds f fd) (hm : mg "_law_holds" = some (.ref f)) (hk : PySem.W.keepIn K (.ref f) = true) (hb : Binds K fd p_L_holds []) (z_all : mg "all" = none) (z_any : mg "any" = none) : ∀ n : Nat, PFn τ P w K mg base (n + 1) "_law_holds" p_L_holds (spHoldsV n) := by
  intro n
  induction n with
  | zero =>
    refine fn_ofC F hm hk hb sc_L_holds (fun ss κ h => by obtain ⟨N, S, f, rfl, _⟩ := h; rfl) fun cdv A outer s H E code gd hr => ?_
    refine ⟨_, qss_no', fun ss κ h => ?_⟩
    obtain ⟨N, S, f, rfl, _, t, _⟩ := h
    have := tall_pos f
    omega
  | succ n G_L_holds =>
  refine fn_ofC F hm hk hb sc_L_holds (fun ss κ h => by obtain ⟨N, S, f, rfl, _⟩ := h; rfl) fun cdv A outer s H E code gd hr => ?_
  refine ⟨_, (qss_cons (qs_if (qt_eq (ru64 hr) (qe_ix (qe_var (pv 0)) qe_int) qe_str) (qss_one (qs_ret (qe_in (ru65 hr) (qe_ix (qe_var (pv 0)) qe_int) (qe_var (pv 1))))) qss_nil)
      (qss_cons (qs_setLc (i := 2) (own := [("_law_part", 3)]) rfl sc_L_holds.nd rfl rfl rfl (qi_any (qe_slice (qe_var (pv 0)) (qo_some qe_int) qo_none)) (blkOk_by (N := n_L_holds) (sc := defScope s_L_holds) (by decide +kernel)) (fun _ _ _ _ _ => (qv_name (i := 3) sc_L_holds.nd rfl (.inl rfl) (by decide))) (fun _ _ _ _ _ => qts_nil) (fun _ _ _ _ _ => (qe_call G_L_holds gd (hr.mono (by omega)) (by rfl) (qc_e (qe_var (pv 3)) (qc_e (qe_var (pv 1)) qc_nil)) (apart_of (by first | decide | simp [refsOf])))))
      (qss_cons (qs_if (qt_eq (ru64 hr) (qe_ix (qe_var (pv 0)) qe_int) qe_str) (qss_one (qs_ret (qe_not (qe_ix (qe_var (pv 2)) qe_int)))) qss_nil)
      (qss_one (qs_ret (qe_if (qt_eq (ru64 hr) (qe_ix (qe_var (pv 0)) qe_int) qe_str) (qe_all rfl (by rfl) z_all (qb_e (qe_var (pv 2)) qb_nil)) (qe_any rfl (by rfl) z_any (qb_e (qe_var (pv 2)) qb_nil)))))))), fun ss κ h => ?_⟩
  obtain ⟨N, S, f, rfl, ok, tl, k⟩ := h
  cases f with
  | ft x =>
    rw [hold_ft] at k
    rw [fD_ft]
    ((conv => whnf); repeat (refine And.intro (Eq.refl _) ?_; conv => whnf))
    refine ⟨.inl ?_, ?_⟩
    · rw [flat_strs]; rfl
    · rw [any_eqv_strs]; exact k
  | nd h ps =>
    obtain ⟨hh, h1, oks⟩ := okV_nd.mp ok
    have tls := tall_nd.mp tl
    have nf := heads_nf hh
    have e0 : fD (.nd h ps) = .tuple (.str h :: ps.map fD) := fD_nd h ps
    rw [hold_nd] at k
    rw [e0]
    ((conv => whnf); repeat (refine And.intro (Eq.refl _) ?_; conv => whnf))
    rw [at0]
    ((conv => whnf); repeat (refine And.intro (Eq.refl _) ?_; conv => whnf))
    rw [decide_eq_false nf]
    ((conv => whnf); repeat (refine And.intro (Eq.refl _) ?_; conv => whnf))
    rw [cut1]
    refine lcL_by (fun ds acc ρ => ∃ done rest : List Fo, ps = done ++ rest ∧ ds = rest.map fD ∧ acc = (done.map (hold S)).map PyData.bool ∧ ρ = [.val (.tuple (.str h :: ps.map fD)), .val (tupS S), .un, .un]) ?_ ?_ _ _ _ ⟨[], ps, rfl, rfl, rfl, rfl⟩
    · rintro acc ρ ⟨done, rest, e, hd, rfl, rfl⟩
      cases rest with
      | cons => cases hd
      | nil =>
        rw [List.append_nil] at e; subst e
        rcases heads_cases hh with rfl | rfl | rfl
        · rw [if_neg (by decide +kernel), if_pos rfl] at k
          ((conv => whnf); repeat (refine And.intro (Eq.refl _) ?_; conv => whnf))
          rw [at0]
          ((conv => whnf); repeat (refine And.intro (Eq.refl _) ?_; conv => whnf))
          rw [at0]
          ((conv => whnf); repeat (refine And.intro (Eq.refl _) ?_; conv => whnf))
          exact ⟨_, rfl, k⟩
        · rw [if_neg (by decide +kernel), if_neg (by decide +kernel)] at k
          ((conv => whnf); repeat (refine And.intro (Eq.refl _) ?_; conv => whnf))
          rw [at0]
          ((conv => whnf); repeat (refine And.intro (Eq.refl _) ?_; conv => whnf))
          rw [at0]
          ((conv => whnf); repeat (refine And.intro (Eq.refl _) ?_; conv => whnf))
          exact ⟨_, rfl, k⟩
        · have l1 := h1 rfl
          match ps, l1, k with
          | [g], _, k =>
            rw [if_pos rfl] at k
            ((conv => whnf); repeat (refine And.intro (Eq.refl _) ?_; conv => whnf))
            exact k
    · rintro d ds acc ρ ⟨done, rest, e, hd, rfl, rfl⟩
      cases rest with
      | nil => cases hd
      | cons g rest =>
        cases hd
        have hg : g ∈ ps := by rw [e]; exact List.mem_append_right _ List.mem_cons_self
        ((conv => whnf); repeat (refine And.intro (Eq.refl _) ?_; conv => whnf))
        refine ⟨N, S, g, rfl, oks g hg, tls g hg, ?_⟩
        ((conv => whnf); repeat (refine And.intro (Eq.refl _) ?_; conv => whnf))
        exact ⟨done ++ [g], rest, by rw [e, List.append_assoc]; rfl, rfl, by rw [List.map_append, List.map_append]; rfl, rfl⟩
def spLFeats (n : Nat) : PSp := fun ss κ => ∃ (N : List Str) (f : Fo), ss = [.val (fD f)] ∧ Fw N n f ∧ κ (strsL (ftF f)) [.un]
theorem pf_L_features {f : Addr} {fd : FuncData} (F : Fun K "_law_features" "_law_features" s_L_features f fd) (hm : mg "_law_features" = some (.ref f)) (hk : PySem.W.keepIn K (.ref f) = true) (hb : Binds K fd p_L_features []) : ∀ n : Nat, PFn τ P w K mg base (n + 1) "_law_features" p_L_features (spLFeats n) := by
  intro n
  induction n with
  | zero =>
    refine fn_ofC F hm hk hb sc_L_features (fun ss κ h => by obtain ⟨N, f, rfl, _⟩ := h; rfl) fun cdv A outer s H E code gd hr => ?_
    refine ⟨_, qss_no', fun ss κ h => ?_⟩
    obtain ⟨N, f, rfl, w, _⟩ := h
    have := w.few
    rw [show cntB 0 (fD f) = 10000 from rfl] at this
    omega
  | succ n G_L_features =>
  refine fn_ofC F hm hk hb sc_L_features (fun ss κ h => by obtain ⟨N, f, rfl, _⟩ := h; rfl) fun cdv A outer s H E code gd hr => ?_
  refine ⟨_, (qss_cons (qs_if (qt_eq (ru64 hr) (qe_ix (qe_var (pv 0)) qe_int) qe_str) (qss_one (qs_ret (qe_list (qa_cons (qe_ix (qe_var (pv 0)) qe_int) qa_nil)))) qss_nil)
      (qss_cons (qs_setO (i := 1) sc_L_features.nd rfl (.inl rfl) (qf_list qa_nil))
      (qss_cons (qs_for PassesOwn.never rfl (qi_any (qe_slice (qe_var (pv 0)) (qo_some qe_int) qo_none)) (qg_name (i := 2) sc_L_features.nd rfl (.inl rfl)) (qss_one (qs_expr (qe_extend (pv 1) (qa_cons (qe_call G_L_features gd (hr.mono (by omega)) (by rfl) (qc_e (qe_var (pv 2)) qc_nil) (apart_of (by first | decide | simp [refsOf]))) qa_nil)))))
      (qss_one (qs_ret (qe_frz (pv 1))))))), fun ss κ h => ?_⟩
  obtain ⟨N, f, rfl, wf, k⟩ := h
  cases f with
  | ft x =>
    rw [fD_ft]
    simp only [ftF] at k
    ((conv => whnf); repeat (refine And.intro (Eq.refl _) ?_; conv => whnf))
    exact k
  | nd h ps =>
    obtain ⟨hh, h1, oks⟩ := okV_nd.mp wf.ok
    have nf := heads_nf hh
    have wp := wf.part
    have wl := wf.fts
    have w4 := wf.few
    have tot : (ps.flatMap ftF).length ≤ 400 := by rw [← ftF_nd h]; exact Nat.le_trans wl w4
    rw [ftF_nd] at k
    rw [fD_nd]
    ((conv => whnf); repeat (refine And.intro (Eq.refl _) ?_; conv => whnf))
    rw [at0]
    ((conv => whnf); repeat (refine And.intro (Eq.refl _) ?_; conv => whnf))
    rw [decide_eq_false nf]
    ((conv => whnf); repeat (refine And.intro (Eq.refl _) ?_; conv => whnf))
    rw [cut1]
    refine forL_by (fun ds ρ => ∃ (done rest : List Fo) (s2 : Slot), ps = done ++ rest ∧ ds = rest.map fD ∧ ρ = [.val (.tuple (.str h :: ps.map fD)), .own false (.lst ((done.flatMap ftF).map PyData.str)), s2]) ?_ ?_ _ _ ⟨[], ps, .un, rfl, rfl, rfl⟩
    · rintro ρ ⟨done, rest, s2, e, hd, rfl⟩
      cases rest with
      | cons => cases hd
      | nil =>
        rw [List.append_nil] at e
        subst e
        ((conv => whnf); repeat (refine And.intro (Eq.refl _) ?_; conv => whnf))
        exact k
    · rintro d ds ρ ⟨done, rest, s2, e, hd, rfl⟩
      cases rest with
      | nil => cases hd
      | cons g rest =>
        cases hd
        have hg : g ∈ ps := by rw [e]; exact List.mem_append_right _ List.mem_cons_self
        have wg := wp g hg
        have lg := wg.fts
        have gf := wg.few
        have ld : (done.flatMap ftF).length ≤ 400 := by
          rw [e, List.flatMap_append, List.length_append] at tot
          omega
        ((conv => whnf); repeat (refine And.intro (Eq.refl _) ?_; conv => whnf))
        refine ⟨N, g, rfl, wg, ?_⟩
        ((conv => whnf); repeat (refine And.intro (Eq.refl _) ?_; conv => whnf))
        refine ⟨by rw [List.length_map, List.length_map]; omega, done ++ [g], rest, .val (fD g), by rw [e, List.append_assoc]; rfl, rfl, ?_⟩
        rw [List.flatMap_append, List.map_append, List.flatMap_cons, List.flatMap_nil, List.append_nil]
        rfl
end
end L2.Pu

set_option Elab.async false
set_option linter.all false
set_option maxRecDepth 100000
set_option maxHeartbeats 4000000
namespace L2.Pu
open PySem PySem.Spec PyProof.Rows
section
variable {P : Program} {w : World} {K : PySem.W.Frag} {mg : Str → Option Value} {base : Heap} {τ : Tb}
theorem DaAll.rep {w : World} {C : Hp} {vs : List V} {ds : List PyData} (h : DaAll w C vs ds) : ∀ n : Nat, DaAll w C (List.replicate n vs).flatten (List.replicate n ds).flatten
  | 0 => .nil
  | n + 1 => by
    rw [List.replicate_succ, List.replicate_succ, List.flatten_cons, List.flatten_cons]
    exact h.append (DaAll.rep h n)
/-- a list, some times over -/
def mulLD : D2 := fun x y P => match x, y with
  | .list a, .int k => (-(2 ^ 62) ≤ k ∧ k < 2 ^ 62 ∧ a.length * k.toNat ≤ 16000000) ∧ P (.list (List.replicate k.toNat a).flatten)
  | _, _ => False
theorem ok_mulL {X : Cx} : OkD τ X rRep mulLD := by
  intro F ρ C σ H x y d e P Q R dx dy h z
  cases dx with
  | @lst a xs ds ea da =>
    cases dy with
    | int k =>
      obtain ⟨⟨h1, h2, hl⟩, h⟩ := h
      rw [← da.length] at hl
      refine ⟨a, k, xs, rfl, rfl, ea, by omega, by omega, line_le hl, fun p np => ?_⟩
      have cp := sub_none R.sub np
      exact z _ _ _ _ h (same_new cp) (R.lay np) (.lst upd_same (R.nsys np) ((da.rep k.toNat).mono (same_new cp)))
    | _ => exact h.elim
  | _ => exact h.elim
theorem qe_mulL {X : Cx} {a b : Expr} {qa qb : QE} {pos : Pos} (ha : PQ τ X a qa) (hb : PQ τ X b qb) : PQ τ X (.BinOp a .Mult b pos) (qOp mulLD qa qb) := pe_imp _ (pe_op op_rep ha hb) (op_imp ok_mulL)
def qRevL (qa : QE) : QE := fun ρ κ => qa ρ fun d ρ1 => match d with
  | .list ds => κ (.list ds.reverse) ρ1
  | _ => False
theorem qe_revL {X : Cx} {e : Expr} {qa : QE} {k : Nat} {p1 p2 p3 pos : Pos} (he : PQ τ X e qa) : PQ τ X (.Subscript e (.Slice none none (some (.UnaryOp .USub (.Constant (.int 1) k p1) p2)) p3) pos) (qRevL qa) := by
  refine pe_imp _ (pe_revL he) ?_
  rintro σ H Q ⟨F, ρ, C, R, κ, k, z⟩
  refine ⟨F, ρ, C, R, _, k, fun d ρ1 v C1 H1 k1 s1 R1 d1 => ?_⟩
  cases d1 with
  | @lst a xs ds ea _ ha =>
    refine ⟨a, xs, rfl, SqL.of (R1.sub _ _ ea), fun q nq => ?_⟩
    have cp := sub_none R1.sub nq
    exact z _ _ _ _ _ k1 (same_trans s1 (same_new cp)) (R1.lay nq) (.lst upd_same (R1.nsys nq) (ha.reverse.mono (same_new cp)))
  | _ => exact False.elim k1
theorem fit_bool (b : Bool) : FitA (.bool b) := by
  have t : Th (.bool b) 0 0 := by cases b <;> exact thC_th (by decide +kernel)
  exact t.fit (by decide) (by decide)
end
end L2.Pu

set_option Elab.async false
set_option linter.all false
set_option maxRecDepth 100000
set_option maxHeartbeats 4000000
namespace L2.Pu
open PySem PySem.Spec PyProof.Rows
theorem cut_drop (ds : List PyData) (c : Nat) : cutD ds (some ((c : Nat) : Int)) none = ds.drop c := by
  unfold cutD
  rw [HT.sIx_nat, HT.sIx_none]
  by_cases h : c ≤ ds.length
  · rw [Nat.min_eq_left h, List.take_of_length_le (by rw [List.length_drop]; exact Nat.le_refl _)]
  · rw [Nat.min_eq_right (by omega), List.drop_eq_nil_of_le (Nat.le_refl _), List.drop_eq_nil_of_le (by omega), List.take_nil]
theorem th_all04 {n k : Nat} : ∀ {ds : List PyData}, (∀ d ∈ ds, Th d n k) → ThAll ds (ds.length * (n + 1)) k
  | [], _ => ThAll.nil
  | d :: ds, h => by
    have a := (h d List.mem_cons_self).one
    have b := th_all04 fun e he => h e (List.mem_cons_of_mem _ he)
    exact (a.app b).more (by rw [List.length_cons, Nat.add_mul]; omega) (Nat.le_refl _)
theorem th_ft04 : ∀ x ∈ ten, Th (fD (.ft x)) 20 2 := by
  have : (ten.all fun x => thC 20 2 (fD (.ft x))) = true := by decide +kernel
  exact fun x hx => thC_th (List.all_eq_true.mp this x hx)
theorem th_head04 : ∀ h ∈ heads, Th (.str h) 20 0 := by
  have : (heads.all fun x => thC 20 0 (.str x)) = true := by decide +kernel
  exact fun x hx => thC_th (List.all_eq_true.mp this x hx)
def fts04 (bs : List Str) : List PyData := bs.map fun x => fD (.ft x)
theorem th_not04 {f : Fo} {B k : Nat} (t : Th (fD f) B k) : Th (fD (.nd "not" [f])) (B + 100) (k + 1) := by
  rw [fD_nd]
  have a := ((th_head04 "not" (by decide +kernel)).more (n' := 20) (k' := k) (Nat.le_refl _) (Nat.zero_le _)).one
  exact (th_tup (a.app t.one)).more (by omega) (Nat.le_refl _)
theorem th_nd04 {h : Str} (hh : h ∈ heads) {f : Fo} {B k : Nat} {N bs : List Str} (sN : N.Sublist ten) (hb : ∀ x ∈ bs, x ∈ N) (lb : bs.length ≤ 340) (k2 : 2 ≤ k) (t : Th (fD f) B k) : Th (.tuple (.str h :: ((fts04 bs).take 3 ++ [fD f] ++ (fts04 bs).drop 3))) (B + 14400) (k + 1) := by
  have a := ((th_head04 h hh).more (n' := 20) (k' := k) (Nat.le_refl _) (Nat.zero_le _)).one
  have b := th_all04 (n := 20) (k := k) (ds := fts04 bs) fun d hd => by
    obtain ⟨x, hx, rfl⟩ := List.mem_map.mp hd
    exact (th_ft04 x (sN.subset (hb x hx))).more (Nat.le_refl _) k2
  have lf : (fts04 bs).length ≤ 340 := by unfold fts04; rw [List.length_map]; exact lb
  have b1 := ThAll.sub (List.take_sublist 3 _) b
  have b2 := ThAll.sub (List.drop_sublist 3 _) b
  have := a.app ((b1.app t.one).app b2)
  have m := Nat.mul_le_mul_right 21 lf
  exact (th_tup this).more (by omega) (Nat.le_refl _)
/-- the longer one -/
def longF (h : Str) (bs : List Str) (f : Fo) : Fo := .nd h (((bs.map Fo.ft).take 3) ++ [f] ++ ((bs.map Fo.ft).drop 3))
theorem longF_D (h : Str) (bs : List Str) (f : Fo) : fD (longF h bs f) = .tuple (.str h :: ((fts04 bs).take 3 ++ [fD f] ++ (fts04 bs).drop 3)) := by
  unfold longF fts04
  rw [fD_nd, List.map_append, List.map_append, List.map_take, List.map_drop, List.map_map]
  rfl
theorem th_long04 {h : Str} (hh : h ∈ heads) {f : Fo} {B k : Nat} {N bs : List Str} (sN : N.Sublist ten) (hb : ∀ x ∈ bs, x ∈ N) (lb : bs.length ≤ 340) (k2 : 2 ≤ k) (t : Th (fD f) B k) : Th (fD (longF h bs f)) (B + 14400) (k + 1) := by
  rw [longF_D]
  exact th_nd04 hh sN hb lb k2 t
theorem longF_ok {h : Str} {bs N : List Str} {f : Fo} (hh : h ∈ heads) (hn : h ≠ "not") (hb : ∀ x ∈ bs, x ∈ N) (o : okV N f) : okV N (longF h bs f) := by
  unfold longF
  have ob : ∀ g ∈ bs.map Fo.ft, okV N g := fun g hg => by
    obtain ⟨x, hx, rfl⟩ := List.mem_map.mp hg
    simpa only [okV] using hb x hx
  refine okV_nd.mpr ⟨hh, fun z => absurd z hn, fun g hg => ?_⟩
  rcases List.mem_append.mp hg with hg | hg
  · rcases List.mem_append.mp hg with hg | hg
    · exact ob g (List.mem_of_mem_take hg)
    · cases List.mem_singleton.mp hg; exact o
  · exact ob g (List.mem_of_mem_drop hg)
section
variable {P : Program} {w : World} {K : PySem.W.Frag} {mg : Str → Option Value} {base : Heap} {τ : Tb}
def spGrown : PSp := fun ss κ => ∃ (n : Nat) (N : List Str), ss = [.own true (.hand n), .val (strsL N)] ∧ N.Sublist ten ∧ N ≠ [] ∧ 4000 ≤ n ∧ ∀ (f : Fo) (n' : Nat), Fw N 10 f → Th (fD f) 160000 12 → n - 4000 ≤ n' → κ (fD f) [.own true (.hand n'), .un]
theorem pf_L_grown {f : Addr} {fd : FuncData} (F : Fun K "_law_grown" "_law_grown" s_L_grown f fd) (hm : mg "_law_grown" = some (.ref f)) (hk : PySem.W.keepIn K (.ref f) = true) (hb : Binds K fd p_L_grown []) (z_range : mg "range" = none) (z_tuple : mg "tuple" = none) (G_L_of : PFn τ P w K mg base 2 "_law_of" p_L_of spOf) (G_is_formula : PFn τ P w K mg base 3 "is_formula" p_is_formula spIsForm) : PFn τ P w K mg base 4 "_law_grown" p_L_grown spGrown := by
  refine fn_ofC F hm hk hb sc_L_grown (fun ss κ h => by obtain ⟨n, N, rfl, _⟩ := h; rfl) fun cdv A outer s H E code gd hr => ?_
  refine ⟨_, (qss_cons (qs_set (i := 2) sc_L_grown.nd rfl (.inl rfl) (qe_tup (qa_cons qe_str (qa_cons (qe_call G_L_of gd (hr.mono (by omega)) (by rfl) (qc_r (pv 0) (qc_e (qe_var (pv 1)) qc_nil)) (apart_of (by first | decide | simp [refsOf]))) qa_nil))))
      (qss_cons (qs_for PassesOwn.never rfl (qi_range1 (by rfl) z_range (qa_cons qe_int qa_nil)) (qg_name (i := 3) sc_L_grown.nd rfl (.inl rfl)) (qss_cons (qs_set (i := 4) sc_L_grown.nd rfl (.inl rfl) (qe_call G_L_of gd (hr.mono (by omega)) (by rfl) (qc_r (pv 0) (qc_e (qe_list (qa_cons qe_int (qa_cons qe_int (qa_cons qe_int (qa_cons qe_int (qa_cons qe_int (qa_cons qe_int (qa_cons qe_int qa_nil)))))))) qc_nil)) (apart_of (by first | decide | simp [refsOf]))))
      (qss_cons (qs_set (i := 5) sc_L_grown.nd rfl (.inl rfl) (qe_tuple (by rfl) z_tuple (qb_e (qe_of (qf_lc (own := [("_law_part", 8)]) rfl sc_L_grown.nd (qi_range1 (by rfl) z_range (qa_cons (qe_var (pv 4)) qa_nil)) (blkOk_by (N := n_L_grown) (sc := defScope s_L_grown) (by decide +kernel)) (fun _ _ _ _ _ => (qv_name (i := 8) sc_L_grown.nd rfl (.inl rfl) (by decide))) (fun _ _ _ _ _ => qts_nil) (fun _ _ _ _ _ => (qe_tup (qa_cons qe_str (qa_cons (qe_call G_L_of gd (hr.mono (by omega)) (by rfl) (qc_r (pv 0) (qc_e (qe_var (pv 1)) qc_nil)) (apart_of (by first | decide | simp [refsOf]))) qa_nil)))))) qb_nil)))
      (qss_cons (qs_set (i := 6) sc_L_grown.nd rfl (.inl rfl) (qe_call G_L_of gd (hr.mono (by omega)) (by rfl) (qc_r (pv 0) (qc_e (qe_list (qa_cons qe_str (qa_cons qe_str (qa_cons qe_str qa_nil)))) qc_nil)) (apart_of (by first | decide | simp [refsOf]))))
      (qss_cons (qs_set (i := 7) sc_L_grown.nd rfl (.inl rfl) (qe_if (qt_eq (ru64 hr) (qe_var (pv 6)) qe_str) (qe_tup (qa_cons qe_str (qa_cons (qe_var (pv 2)) qa_nil))) (qe_add (qe_add (qe_add (qe_tup (qa_cons (qe_var (pv 6)) qa_nil)) (qe_slice (qe_var (pv 5)) qo_none (qo_some qe_int))) (qe_tup (qa_cons (qe_var (pv 2)) qa_nil))) (qe_slice (qe_var (pv 5)) (qo_some qe_int) qo_none))))
      (qss_one (qs_if (qt_val (qe_call G_is_formula gd (hr.mono (by omega)) (by rfl) (qc_e (qe_var (pv 7)) qc_nil) (apart_of (by first | decide | simp [refsOf])))) (qss_one (qs_set (i := 2) sc_L_grown.nd rfl (.inl rfl) (qe_var (pv 7)))) qss_nil)))))))
      (qss_one (qs_ret (qe_var (pv 2)))))), fun ss κ h => ?_⟩
  obtain ⟨n, N, rfl, sN, ne, hn, k⟩ := h
  obtain ⟨n, rfl⟩ : ∃ z, n = z + 1 := ⟨n - 1, by omega⟩
  have lN : N.length ≤ 10 := sN.length_le
  have nN : N.map PyData.str ≠ [] := fun z => ne (List.map_eq_nil_iff.mp z)
  ((conv => whnf); repeat (refine And.intro (Eq.refl _) ?_; conv => whnf))
  refine ⟨n, N.map PyData.str, rfl, nN, by rw [List.length_map]; omega, fun dd hdd => ?_⟩
  obtain ⟨y, hy, rfl⟩ := List.mem_map.mp hdd
  ((conv => whnf); repeat (refine And.intro (Eq.refl _) ?_; conv => whnf))
  refine ⟨by decide, by decide, ?_⟩
  have w0 : Fw N 10 (.ft y) := ⟨by simpa only [okV] using hy, by
    have ny : nameS y = true := (by decide +kernel : ∀ x ∈ ten, nameS x = true) y (sN.subset hy)
    have e : cntB 10 (fD (.ft y)) = if outB (fD (.ft y)) = true then 1 + ((partB (fD (.ft y))).map (cntB 9)).sum else 10000 := rfl
    rw [e, fD_ft, part_eq, if_pos rfl, out_eq, if_pos rfl]
    have : (decide (([PyData.str y]).length = 1) && nameB (([PyData.str y]).headD .none)) = true := by
      show (true && nameS y) = true
      rw [ny]; rfl
    rw [if_pos this]
    decide⟩
  refine forL_by (fun ds ρ => ∃ (f : Fo) (n' : Nat) (s3 s4 s5 s6 s7 : Slot), Fw N 10 f ∧ Th (fD f) (15000 * (10 - ds.length)) (11 - ds.length) ∧ n ≤ n' + 400 * (9 - ds.length) ∧ ds.length ≤ 9 ∧ ρ = [.own true (.hand n'), .val (strsL N), .val (fD f), s3, s4, s5, s6, s7, .un]) ?_ ?_ _ _ ⟨.ft y, n, .un, .un, .un, .un, .un, w0, (th_ft04 y (sN.subset hy)).more (by decide) (by decide), by simp [rngD], by simp [rngD], rfl⟩
  · rintro ρ ⟨f, n', s3, s4, s5, s6, s7, wf, tf, hn', _, rfl⟩
    ((conv => whnf); repeat (refine And.intro (Eq.refl _) ?_; conv => whnf))
    exact k f n' wf (tf.more (by decide) (by decide)) (by simp only [List.length_nil] at hn'; omega)
  · rintro d ds ρ ⟨f, n', s3, s4, s5, s6, s7, wf, tf, hn', l9, rfl⟩
    rw [List.length_cons] at tf hn' l9
    obtain ⟨n', rfl⟩ : ∃ z, n' = z + 1 := ⟨n' - 1, by omega⟩
    ((conv => whnf); repeat (refine And.intro (Eq.refl _) ?_; conv => whnf))
    refine ⟨n', _, rfl, by simp, by decide, fun dd hdd => ?_⟩
    obtain ⟨m, rfl, hm4⟩ := nats_mem 340 (by decide) hdd
    ((conv => whnf); repeat (refine And.intro (Eq.refl _) ?_; conv => whnf))
    refine ⟨by omega, by omega, ?_⟩
    refine lcL_by (fun es acc ρ => ∃ (bs : List Str) (n2 : Nat), acc = fts04 bs ∧ (∀ x ∈ bs, x ∈ N) ∧ bs.length + es.length = m ∧ n' ≤ n2 + bs.length ∧ ρ = [.own true (.hand n2), .val (strsL N), .val (fD f), .val d, .val (.int m), s5, s6, s7, .un]) ?_ ?_ _ _ _ ?_
    · rintro acc ρ ⟨bs, n2, rfl, hbs, hl, hn2, rfl⟩
      have lb : bs.length = m := by simpa using hl
      obtain ⟨n2, rfl⟩ : ∃ z, n2 = z + 1 := ⟨n2 - 1, by omega⟩
      ((conv => whnf); repeat (refine And.intro (Eq.refl _) ?_; conv => whnf))
      refine ⟨n2, _, rfl, by simp, by decide, fun dd hdd => ?_⟩
      obtain ⟨h, rfl, hh⟩ : ∃ h : Str, dd = .str h ∧ h ∈ heads := by
        simp only [List.mem_cons, List.not_mem_nil, or_false] at hdd
        rcases hdd with rfl | rfl | rfl <;> exact ⟨_, rfl, by decide +kernel⟩
      have lf : (fts04 bs).length ≤ 340 := by unfold fts04; rw [List.length_map]; omega
      ((conv => whnf); repeat (refine And.intro (Eq.refl _) ?_; conv => whnf))
      by_cases hnot : h = "not"
      · subst hnot
        rw [decide_eq_true rfl]
        have eD : PyData.tuple [.str "not", fD f] = fD (.nd "not" [f]) := (fD_nd "not" [f]).symm
        ((conv => whnf); repeat (refine And.intro (Eq.refl _) ?_; conv => whnf))
        rw [eD]
        refine ⟨_, _, _, rfl, th_not04 tf, by omega, ?_⟩
        by_cases hc : cntB 10 (fD (.nd "not" [f])) ≤ 400
        · rw [decide_eq_true hc]
          ((conv => whnf); repeat (refine And.intro (Eq.refl _) ?_; conv => whnf))
          exact ⟨.nd "not" [f], n2, .val d, .val (.int m), .val (.tuple (fts04 bs)), .val (.str "not"), .val (fD (.nd "not" [f])), ⟨okV_nd.mpr ⟨hh, fun _ => rfl, fun g hg => by cases List.mem_singleton.mp hg; exact wf.ok⟩, hc⟩, (th_not04 tf).more (by omega) (by omega), by omega, by omega, rfl⟩
        · rw [decide_eq_false hc]
          ((conv => whnf); repeat (refine And.intro (Eq.refl _) ?_; conv => whnf))
          exact ⟨f, n2, .val d, .val (.int m), .val (.tuple (fts04 bs)), .val (.str "not"), .val (fD (.nd "not" [f])), wf, tf.more (by omega) (by omega), by omega, by omega, rfl⟩
      · rw [decide_eq_false hnot]
        ((conv => whnf); repeat (refine And.intro (Eq.refl _) ?_; conv => whnf))
        have c1 : cutD (fts04 bs) none (some 3) = (fts04 bs).take 3 := cut_take _ 3
        have c2 : cutD (fts04 bs) (some 3) none = (fts04 bs).drop 3 := cut_drop _ 3
        have l1 : ((fts04 bs).take 3).length ≤ 340 := Nat.le_trans (List.length_take_le' _ _) lf
        have l2 : ((fts04 bs).drop 3).length ≤ 340 := by rw [List.length_drop]; omega
        rw [c1]
        refine ⟨by simp only [List.length_cons, List.length_nil]; omega, ?_⟩
        ((conv => whnf); repeat (refine And.intro (Eq.refl _) ?_; conv => whnf))
        refine ⟨by simp only [List.length_append, List.length_cons, List.length_nil]; omega, ?_⟩
        ((conv => whnf); repeat (refine And.intro (Eq.refl _) ?_; conv => whnf))
        rw [c2]
        refine ⟨by simp only [List.length_append, List.length_cons, List.length_nil]; omega, ?_⟩
        ((conv => whnf); repeat (refine And.intro (Eq.refl _) ?_; conv => whnf))
        have eD : PyData.tuple ([.str h] ++ (fts04 bs).take 3 ++ [fD f] ++ (fts04 bs).drop 3) = fD (longF h bs f) := by rw [longF_D]; rfl
        have tl := th_long04 hh sN hbs (by omega) (by omega) tf
        rw [eD]
        refine ⟨_, _, _, rfl, tl, by omega, ?_⟩
        by_cases hc : cntB 10 (fD (longF h bs f)) ≤ 400
        · rw [decide_eq_true hc]
          ((conv => whnf); repeat (refine And.intro (Eq.refl _) ?_; conv => whnf))
          exact ⟨longF h bs f, n2, .val d, .val (.int m), .val (.tuple (fts04 bs)), .val (.str h), .val (fD (longF h bs f)), ⟨longF_ok hh hnot hbs wf.ok, hc⟩, tl.more (by omega) (by omega), by omega, by omega, rfl⟩
        · rw [decide_eq_false hc]
          ((conv => whnf); repeat (refine And.intro (Eq.refl _) ?_; conv => whnf))
          exact ⟨f, n2, .val d, .val (.int m), .val (.tuple (fts04 bs)), .val (.str h), .val (fD (longF h bs f)), wf, tf.more (by omega) (by omega), by omega, by omega, rfl⟩
    · rintro e es acc ρ ⟨bs, n2, rfl, hbs, hl, hn2, rfl⟩
      rw [List.length_cons] at hl
      obtain ⟨n2, rfl⟩ : ∃ z, n2 = z + 1 := ⟨n2 - 1, by omega⟩
      ((conv => whnf); repeat (refine And.intro (Eq.refl _) ?_; conv => whnf))
      refine ⟨n2, N.map PyData.str, rfl, nN, by rw [List.length_map]; omega, fun dd hdd => ?_⟩
      obtain ⟨x, hx, rfl⟩ := List.mem_map.mp hdd
      ((conv => whnf); repeat (refine And.intro (Eq.refl _) ?_; conv => whnf))
      exact ⟨bs ++ [x], n2, by unfold fts04; rw [List.map_append]; rfl, fun z hz => (List.mem_append.mp hz).elim (hbs z) fun q => by cases List.mem_singleton.mp q; exact hx, by rw [List.length_append, List.length_singleton]; omega, by rw [List.length_append, List.length_singleton]; omega, rfl⟩
    · exact ⟨[], n', rfl, (fun _ z => nomatch z), by simp [rngD], by simp, rfl⟩
end
end L2.Pu

set_option Elab.async false
set_option linter.all false
set_option maxRecDepth 100000
set_option maxHeartbeats 4000000
namespace L2.Pu
open PySem PySem.Spec PyProof.Rows
theorem ten_list {N a : List Str} (sN : N.Sublist ten) (nd : a.Nodup) (h : ∀ x ∈ a, x ∈ N) : a.length < 64 := Nat.lt_of_le_of_lt (nodup_le nd fun x hx => sN.subset (h x hx)) (by decide +kernel)
theorem inStr_not {f : Fo} (h : Ends f) {P : PyData → Prop} (k : P (.bool (plusF f))) : inD true (.str "'not', (") (.str (fD f).shown) P := by
  show inStr true "'not', (" (fD f).shown P
  unfold inStr
  rw [show ("'not', (" : Str).cps.toList = patN from by decide +kernel]
  show P (.bool (ng true (!(Builtin.Str.occurrences (fD f).shown "'not', (" 0 (fD f).shown.length 1).isEmpty)))
  rw [in_text h]
  show P (.bool (!(!plusF f)))
  rw [Bool.not_not]
  exact k
theorem feat_eq {N : List Str} {f : Fo} (tl : tall f ≤ 10) (o : okV N f) : sortS (Fu.allL (ftF f)) = featB (fD f) := by
  unfold featB
  exact asc_same (asc_sortS (allL_nodup _)) (asc_sortS (allL_nodup _)) fun x => by rw [mem_sortS, mem_sortS, Fu.mem_allL, Fu.mem_allL, dfs_fts 10 f tl o]
section
variable {P : Program} {w : World} {K : PySem.W.Frag} {mg : Str → Option Value} {base : Heap} {τ : Tb}
def spFeats04 : PSp := fun ss κ => ∃ (d : PyData) (n k : Nat), ss = [.val d] ∧ Th d n k ∧ cntB 10 d ≤ 400 ∧ (∀ x ∈ (dfs 10 d).flatMap ft1, x ∈ ten) ∧ κ (tupS (featB d)) [.un]
theorem pf_features_of04 {f : Addr} {fd : FuncData} (F : Fun K "features_of" "features_of" s_features_of f fd) (hm : mg "features_of" = some (.ref f)) (hk : PySem.W.keepIn K (.ref f) = true) (hb : Binds K fd p_features_of []) (z_sorted : mg "sorted" = none) (z_tuple : mg "tuple" = none) (G_formulas_inE : PFn τ P w K mg base 2 "formulas_in" p_formulas_in spFinE) : PFn τ P w K mg base 3 "features_of" p_features_of spFeats04 := by
  refine fn_ofC F hm hk hb sc_features_of (fun ss κ h => by obtain ⟨d, n, k, rfl, _⟩ := h; rfl) fun cdv A outer s H E code gd hr => ?_
  refine ⟨_, (qss_one (qs_ret (qe_tuple (by rfl) z_tuple (qb_e (qe_of (qf_sortScT rfl (by rfl) z_sorted sc_features_of.nd (own := [("part", 1)]) (qi_any (qe_call G_formulas_inE gd (hr.mono (by omega)) (by rfl) (qc_e (qe_var (pv 0)) qc_nil) (apart_of (by first | decide | simp [refsOf])))) (blkOk_by (N := n_features_of) (sc := defScope s_features_of) (by decide +kernel)) (fun _ _ _ _ _ => (qv_name (i := 1) sc_features_of.nd rfl (.inl rfl) (by decide))) (fun _ _ _ _ _ => (qts_one (qt_eq (ru64 hr) (qe_ix (qe_var (pv 1)) qe_int) qe_str))) (fun _ _ _ _ _ => (qe_ix (qe_var (pv 1)) qe_int)))) qb_nil)))), fun ss κ h => ?_⟩
  obtain ⟨d, nn, kk, rfl, td, hc, hp, k⟩ := h
  ((conv => whnf); repeat (refine And.intro (Eq.refl _) ?_; conv => whnf))
  refine ⟨d, nn, kk, rfl, td, hc, fun ⟨lL, hL⟩ => ?_⟩
  have ef : featB d = sortS (Fu.allL ((dfs 10 d).flatMap ft1)) := rfl
  rw [ef] at k
  generalize dfs 10 d = L at lL hL hp k ⊢
  ((conv => whnf); repeat (refine And.intro (Eq.refl _) ?_; conv => whnf))
  refine ⟨by omega, ?_⟩
  refine lcL_pure (i := 1) (vs := [1]) (ρ := [.val d, .un]) isFt theFt (fun d => rfl) L [] (fun e he K => ?_) (fun e he hp K => ?_) ?_
  · obtain ⟨x, rest, rfl⟩ := out_shape (hL e he).1
    intro h
    ((conv => whnf); repeat (refine And.intro (Eq.refl _) ?_; conv => whnf))
    rw [at0]
    exact h
  · have ho := (hL e he).1
    obtain ⟨x, rest, rfl⟩ := out_shape ho
    have hx : x = "feature" := of_decide_eq_true hp
    subst hx
    obtain ⟨y, rfl⟩ := out_ft ho
    intro h
    exact ⟨⟨y, rfl⟩, h⟩
  · rw [List.nil_append, fts_map fun e he => (hL e he).1]
    refine ⟨_, rfl, fun L2 hL2 nd => ⟨?_, ?_⟩⟩
    · have := nodup_le nd (b := ten) fun x hx => hp x ((hL2 x).mp hx)
      exact Nat.lt_of_le_of_lt this (by decide)
    · have e2 : sortS L2 = sortS (Fu.allL (L.flatMap ft1)) := asc_same (asc_sortS nd) (asc_sortS (allL_nodup _)) fun x => by rw [mem_sortS, mem_sortS, hL2, Fu.mem_allL]
      ((conv => whnf); repeat (refine And.intro (Eq.refl _) ?_; conv => whnf))
      rw [e2]
      exact k
theorem pf_law {f : Addr} {fd : FuncData} (F : Fun K "law" "law" s_law f fd) (hm : mg "law" = some (.ref f)) (hk : PySem.W.keepIn K (.ref f) = true) (hb : Binds K fd p_law []) (z_len : mg "len" = none) (z_max : mg "max" = none) (z_min : mg "min" = none) (z_range : mg "range" = none) (z_repr : mg "repr" = none) (z_set : mg "set" = none) (z_sorted : mg "sorted" = none) (z_tuple : mg "tuple" = none) (hsys : SysB base) (G_L_hand : PFnH P w K mg base 1 "_law_hand" p_L_hand) (G_L_of : PFn τ P w K mg base 2 "_law_of" p_L_of spOf) (G_L_names : PFn τ P w K mg base 2 "_law_names" p_L_names spNames) (G_L_some : PFn τ P w K mg base 2 "_law_some" p_L_some spSome) (G_L_grown : PFn τ P w K mg base 4 "_law_grown" p_L_grown spGrown) (G_L_features : PFn τ P w K mg base 11 "_law_features" p_L_features (spLFeats 10)) (G_features_of04 : PFn τ P w K mg base 3 "features_of" p_features_of spFeats04) (G_is_positive : PFn τ P w K mg base 3 "is_positive" p_is_positive spPos) (G_holds : PFn τ P w K mg base 12 "holds" p_holds (spHoldsV 10)) (G_L_holds : PFn τ P w K mg base 11 "_law_holds" p_L_holds (spHoldsV 10)) : Fu.FnG P w K mg base CX0 13 f fd p_law (liftP ⟨P, w, K, τ, base⟩ spLawP) := by
  refine fn_ofL F sc_law (fun ss κ h => by obtain ⟨m, rfl, _⟩ := h; rfl) fun cdv A outer s H E code gd hr => ?_
  refine ⟨_, (qss_cons (qs_for PassesOwn.never rfl (qi_range1 (by rfl) z_range (qa_cons (qe_max2 rfl (by rfl) z_max (qb_e qe_int (qb_e (qe_min2 rfl (by rfl) z_min (qb_e qe_int (qb_e (qe_lenScr (by rfl) z_len (pv 0)) qb_nil))) qb_nil))) qa_nil)) (qg_name (i := 1) sc_law.nd rfl (.inl rfl)) (qss_cons (qs_setO (i := 2) sc_law.nd rfl (.inl rfl) (qf_hand G_L_hand gd (hr.mono (by omega)) (by rfl) (pv 0) (qe_var (pv 1))))
      (qss_cons (qs_set (i := 3) sc_law.nd rfl (.inl rfl) (qe_call G_L_names gd (hr.mono (by omega)) (by rfl) (qc_r (pv 2) (qc_e qe_int qc_nil)) (apart_of (by first | decide | simp [refsOf]))))
      (qss_one (qs_for PassesOwn.never rfl (qi_range1 (by rfl) z_range (qa_cons qe_int qa_nil)) (qg_name (i := 4) sc_law.nd rfl (.inl rfl)) (qss_cons (qs_set (i := 5) sc_law.nd rfl (.inl rfl) (qe_call G_L_grown gd (hr.mono (by omega)) (by rfl) (qc_r (pv 2) (qc_e (qe_var (pv 3)) qc_nil)) (apart_of (by first | decide | simp [refsOf]))))
      (qss_cons (qs_set (i := 6) sc_law.nd rfl (.inl rfl) (qe_tup (qa_cons (qe_tuple (by rfl) z_tuple (qb_e (qe_of (qf_sortOf rfl (by rfl) z_sorted (qf_setOf rfl (by rfl) z_set (qe_call G_L_features gd (hr.mono (by omega)) (by rfl) (qc_e (qe_var (pv 5)) qc_nil) (apart_of (by first | decide | simp [refsOf])))))) qb_nil)) (qa_cons (qe_notIn (ru65 hr) qe_str (qe_reprA hsys gd (ru64 hr) (by rfl) z_repr (qe_var (pv 5)))) qa_nil))))
      (qss_cons (qs_if (qt_ne (ru64 hr) (qe_reprA hsys gd (ru64 hr) (by rfl) z_repr (qe_tup (qa_cons (qe_call G_features_of04 gd (hr.mono (by omega)) (by rfl) (qc_e (qe_var (pv 5)) qc_nil) (apart_of (by first | decide | simp [refsOf]))) (qa_cons (qe_call G_is_positive gd (hr.mono (by omega)) (by rfl) (qc_e (qe_var (pv 5)) qc_nil) (apart_of (by first | decide | simp [refsOf]))) qa_nil)))) (qe_reprA hsys gd (ru64 hr) (by rfl) z_repr (qe_var (pv 6)))) (qss_one (qs_ret qe_bl)) qss_nil)
      (qss_one (qs_for PassesOwn.never rfl (qi_range1 (by rfl) z_range (qa_cons qe_int qa_nil)) (qg_name (i := 7) sc_law.nd rfl (.inl rfl)) (qss_cons (qs_set (i := 8) sc_law.nd rfl (.inl rfl) (qe_call G_L_some gd (hr.mono (by omega)) (by rfl) (qc_r (pv 2) (qc_e (qe_if (qt_eq (ru64 hr) (qe_mod (qe_var (pv 7)) qe_int) qe_int) (qe_revL (qe_var (pv 3))) (qe_var (pv 3))) (qc_e (qe_call G_L_of gd (hr.mono (by omega)) (by rfl) (qc_r (pv 2) (qc_e (qe_list (qa_cons qe_int (qa_cons qe_int (qa_cons qe_int (qa_cons qe_int qa_nil))))) qc_nil)) (apart_of (by first | decide | simp [refsOf]))) qc_nil))) (apart_of (by first | decide | simp [refsOf]))))
      (qss_one (qs_if (qt_ne (ru64 hr) (qe_reprA hsys gd (ru64 hr) (by rfl) z_repr (qe_call G_holds gd (hr.mono (by omega)) (by rfl) (qc_e (qe_var (pv 5)) (qc_e (qe_var (pv 8)) qc_nil)) (apart_of (by first | decide | simp [refsOf])))) (qe_reprA hsys gd (ru64 hr) (by rfl) z_repr (qe_call G_L_holds gd (hr.mono (by omega)) (by rfl) (qc_e (qe_var (pv 5)) (qc_e (qe_var (pv 8)) qc_nil)) (apart_of (by first | decide | simp [refsOf]))))) (qss_one (qs_ret qe_bl)) qss_nil)))))))))))))
      (qss_one (qs_ret qe_bl))), fun ss κ h => ?_⟩
  obtain ⟨ns, rfl, hl, k⟩ := h
  ((conv => whnf); repeat (refine And.intro (Eq.refl _) ?_; conv => whnf))
  have e1 : ((fun i j : Int => if j > i then j else i) 1 ((fun i j : Int => if j < i then j else i) 3 (ns.length : Int))) ≤ 3 := by dsimp only; split <;> split <;> omega
  have e0 : 1 ≤ ((fun i j : Int => if j > i then j else i) 1 ((fun i j : Int => if j < i then j else i) 3 (ns.length : Int))) := by dsimp only; split <;> split <;> omega
  generalize ((fun i j : Int => if j > i then j else i) 1 ((fun i j : Int => if j < i then j else i) 3 (ns.length : Int))) = cells at e0 e1
  refine ⟨by omega, by omega, ?_⟩
  refine forL_by (fun ds ρ => (∀ d ∈ ds, ∃ i : Nat, d = .int i ∧ i ≤ 10) ∧ ∃ s1 s2 s3 s4 s5 s6 s7 s8 : Slot, ρ = [.scr ns, s1, s2, s3, s4, s5, s6, s7, s8]) ?_ ?_ _ _ ⟨fun d hd => ?_, .un, .un, .un, .un, .un, .un, .un, .un, rfl⟩
  · rintro ρ ⟨_, s1, s2, s3, s4, s5, s6, s7, s8, rfl⟩
    exact k
  · rintro d ds ρ ⟨hds, s1, s2, s3, s4, s5, s6, s7, s8, rfl⟩
    obtain ⟨j, rfl, hj⟩ := hds d List.mem_cons_self
    have hds' : ∀ d ∈ ds, ∃ i : Nat, d = .int i ∧ i ≤ 10 := fun d hd => hds d (List.mem_cons_of_mem _ hd)
    ((conv => whnf); repeat (refine And.intro (Eq.refl _) ?_; conv => whnf))
    refine ⟨⟨ns, rfl⟩, ?_⟩
    ((conv => whnf); repeat (refine And.intro (Eq.refl _) ?_; conv => whnf))
    refine ⟨by omega, by omega, ?_⟩
    obtain ⟨nb, hnb⟩ : ∃ z : Nat, z = 900000000 := ⟨_, rfl⟩
    rw [← hnb]
    ((conv => whnf); repeat (refine And.intro (Eq.refl _) ?_; conv => whnf))
    refine ⟨nb, 8, rfl, by omega, by decide, fun N n1 sN lN hn1 => ?_⟩
    have ne : N ≠ [] := fun z => by rw [z] at lN; cases lN
    ((conv => whnf); repeat (refine And.intro (Eq.refl _) ?_; conv => whnf))
    refine ⟨by decide, by decide, ?_⟩
    refine forL_by (fun ds ρ => ∃ (n' : Nat) (s4 s5 s6 s7 s8 : Slot), 6000 * ds.length ≤ n' ∧ ρ = [.scr ns, .val (.int j), .own false (.hand n'), .val (strsL N), s4, s5, s6, s7, s8]) ?_ ?_ _ _ ⟨n1, s4, s5, s6, s7, s8, by simp [rngD]; omega, rfl⟩
    · rintro ρ ⟨n', t4, t5, t6, t7, t8, _, rfl⟩
      exact ⟨hds', _, _, _, _, _, _, _, _, rfl⟩
    · rintro lv ds2 ρ ⟨n', t4, t5, t6, t7, t8, hn', rfl⟩
      rw [List.length_cons] at hn'
      ((conv => whnf); repeat (refine And.intro (Eq.refl _) ?_; conv => whnf))
      refine ⟨n', N, rfl, sN, ne, by omega, fun f n2 wf tf hn2 => ?_⟩
      have tl := wf.tall
      have hin := ftF_in 10 f tl wf.ok
      have lft := wf.fts
      have few := wf.few
      have en := ends_all (fun x hx => sN.subset hx) 10 f tl wf.ok
      have ef := feat_eq tl wf.ok
      have ep : posB (fD f) = plusF f := dfs_plus 10 f tl wf.ok
      have hall : ∀ x ∈ Fu.allL (ftF f), x ∈ N := fun x hx => hin x ((Fu.mem_allL _ _).mp hx)
      ((conv => whnf); repeat (refine And.intro (Eq.refl _) ?_; conv => whnf))
      refine ⟨N, f, rfl, wf, ?_⟩
      ((conv => whnf); repeat (refine And.intro (Eq.refl _) ?_; conv => whnf))
      refine ⟨ftF f, .inl rfl, by omega, ten_list sN (allL_nodup _) hall, ?_⟩
      rw [ef]
      ((conv => whnf); repeat (refine And.intro (Eq.refl _) ?_; conv => whnf))
      refine ⟨tf.fit (by decide) (by decide), ?_⟩
      refine inStr_not en ?_
      have hx10 : ∀ x ∈ (dfs 10 (fD f)).flatMap ft1, x ∈ ten := fun x hx => sN.subset (hin x ((dfs_fts 10 f tl wf.ok x).mp hx))
      ((conv => whnf); repeat (refine And.intro (Eq.refl _) ?_; conv => whnf))
      refine ⟨fD f, _, _, rfl, tf, few, hx10, ?_⟩
      ((conv => whnf); repeat (refine And.intro (Eq.refl _) ?_; conv => whnf))
      refine ⟨fD f, _, _, rfl, tf, few, ?_⟩
      rw [ep]
      have ft0 : FitA (.tuple [tupS (featB (fD f)), .bool (plusF f)]) := by
        have hf : ∀ x ∈ featB (fD f), x ∈ ten := fun x hx => by
          rw [← ef] at hx
          exact sN.subset (hall x (mem_sortS.mp hx))
        have lf : (featB (fD f)).length ≤ 10 := by
          rw [← ef, sortS_length]
          exact nodup_le (allL_nodup _) fun x hx => sN.subset (hall x hx)
        have a := th_tup (th_all04 (n := 8) (k := 0) (ds := (featB (fD f)).map PyData.str) fun d hd => by
          obtain ⟨x, hx, rfl⟩ := List.mem_map.mp hd
          exact thC_th ((by decide +kernel : ∀ x ∈ ten, thC 8 0 (.str x) = true) x (hf x hx)))
        have b : Th (.bool (plusF f)) 0 1 := by cases plusF f <;> exact thC_th (by decide +kernel)
        rw [List.length_map] at a
        exact (th_tup ((a.more (n' := 90) (by omega) (Nat.le_refl _)).one.app b.one)).fit (by decide) (by decide)
      generalize featB (fD f) = fs at ft0 ⊢
      ((conv => whnf); repeat (refine And.intro (Eq.refl _) ?_; conv => whnf))
      refine ⟨ft0, ?_⟩
      ((conv => whnf); repeat (refine And.intro (Eq.refl _) ?_; conv => whnf))
      have ft1 : FitA (PyData.tuple [PyData.tuple (fs.map PyData.str), PyData.bool (plusF f)]) := ft0
      refine ⟨ft1, ?_⟩
      rw [show PyData.tuple [tupS fs, PyData.bool (plusF f)] = PyData.tuple [PyData.tuple (fs.map PyData.str), PyData.bool (plusF f)] from rfl]
      generalize hsh : (PyData.tuple [PyData.tuple (fs.map PyData.str), PyData.bool (plusF f)]).shown = sh
      ((conv => whnf); repeat (refine And.intro (Eq.refl _) ?_; conv => whnf))
      rw [decide_eq_true rfl]
      ((conv => whnf); repeat (refine And.intro (Eq.refl _) ?_; conv => whnf))
      refine ⟨by decide, by decide, ?_⟩
      refine forL_by (fun ds ρ => (∀ d ∈ ds, ∃ i : Nat, d = .int i ∧ i ≤ 12) ∧ ∃ (n3 : Nat) (s7 s8 : Slot), 6000 * ds2.length + 20 * ds.length ≤ n3 ∧ ρ = [.scr ns, .val (.int j), .own false (.hand n3), .val (strsL N), .val lv, .val (fD f), .val (PyData.tuple [PyData.tuple (fs.map PyData.str), PyData.bool (plusF f)]), s7, s8]) ?_ ?_ _ _ ⟨fun d hd => ?_, n2, t7, t8, by simp [rngD]; omega, rfl⟩
      · rintro ρ ⟨_, n3, u7, u8, hn3, rfl⟩
        exact ⟨n3, _, _, _, _, _, by simp only [List.length_nil] at hn3; omega, rfl⟩
      · rintro d ds3 ρ ⟨hd3, n3, u7, u8, hn3, rfl⟩
        obtain ⟨i, rfl, hi⟩ := hd3 d List.mem_cons_self
        have hd3' : ∀ d ∈ ds3, ∃ i : Nat, d = .int i ∧ i ≤ 12 := fun d hd => hd3 d (List.mem_cons_of_mem _ hd)
        rw [List.length_cons] at hn3
        obtain ⟨n3, rfl⟩ : ∃ z, n3 = z + 1 := ⟨n3 - 1, by omega⟩
        ((conv => whnf); repeat (refine And.intro (Eq.refl _) ?_; conv => whnf))
        refine ⟨by dsimp only; decide, ?_⟩
        ((conv => whnf); repeat (refine And.intro (Eq.refl _) ?_; conv => whnf))
        cases hp : decide ((i : Int) % 2 = 0) with
        | true =>
          ((conv => whnf); repeat (refine And.intro (Eq.refl _) ?_; conv => whnf))
          refine ⟨n3, _, rfl, by simp, by decide, fun dd hdd => ?_⟩
          obtain ⟨o, rfl, o0, o1⟩ := ints_mem 1 5 (by decide) hdd
          ((conv => whnf); repeat (refine And.intro (Eq.refl _) ?_; conv => whnf))
          refine ⟨n3, N.reverse, o, by rw [← List.map_reverse]; rfl, by simp only [List.length_reverse]; omega, by omega, by omega, fun ys n4 sub hn4 => ?_⟩
          have hn4 : n3 - N.length ≤ n4 := by simpa using hn4
          ((conv => whnf); repeat (refine And.intro (Eq.refl _) ?_; conv => whnf))
          refine ⟨N, ys, f, rfl, wf.ok, tl, ?_⟩
          ((conv => whnf); repeat (refine And.intro (Eq.refl _) ?_; conv => whnf))
          refine ⟨fit_bool _, ?_⟩
          ((conv => whnf); repeat (refine And.intro (Eq.refl _) ?_; conv => whnf))
          refine ⟨N, ys, f, rfl, wf.ok, tl, ?_⟩
          ((conv => whnf); repeat (refine And.intro (Eq.refl _) ?_; conv => whnf))
          refine ⟨fit_bool _, ?_⟩
          generalize (PyData.bool (hold ys f)).shown = sb
          ((conv => whnf); repeat (refine And.intro (Eq.refl _) ?_; conv => whnf))
          rw [decide_eq_true rfl]
          ((conv => whnf); repeat (refine And.intro (Eq.refl _) ?_; conv => whnf))
          exact ⟨hd3', n4, .val (.int i), .val (tupS ys), by omega, rfl⟩
        | false =>
          ((conv => whnf); repeat (refine And.intro (Eq.refl _) ?_; conv => whnf))
          refine ⟨n3, _, rfl, by simp, by decide, fun dd hdd => ?_⟩
          obtain ⟨o, rfl, o0, o1⟩ := ints_mem 1 5 (by decide) hdd
          ((conv => whnf); repeat (refine And.intro (Eq.refl _) ?_; conv => whnf))
          refine ⟨n3, N, o, rfl, by omega, by omega, by omega, fun ys n4 sub hn4 => ?_⟩
          have hn4 : n3 - N.length ≤ n4 := by simpa using hn4
          ((conv => whnf); repeat (refine And.intro (Eq.refl _) ?_; conv => whnf))
          refine ⟨N, ys, f, rfl, wf.ok, tl, ?_⟩
          ((conv => whnf); repeat (refine And.intro (Eq.refl _) ?_; conv => whnf))
          refine ⟨fit_bool _, ?_⟩
          ((conv => whnf); repeat (refine And.intro (Eq.refl _) ?_; conv => whnf))
          refine ⟨N, ys, f, rfl, wf.ok, tl, ?_⟩
          ((conv => whnf); repeat (refine And.intro (Eq.refl _) ?_; conv => whnf))
          refine ⟨fit_bool _, ?_⟩
          generalize (PyData.bool (hold ys f)).shown = sb
          ((conv => whnf); repeat (refine And.intro (Eq.refl _) ?_; conv => whnf))
          rw [decide_eq_true rfl]
          ((conv => whnf); repeat (refine And.intro (Eq.refl _) ?_; conv => whnf))
          exact ⟨hd3', n4, .val (.int i), .val (tupS ys), by omega, rfl⟩
      · obtain ⟨i, rfl, hi⟩ := rng_mem hd
        exact ⟨i, rfl, by omega⟩
  · obtain ⟨i, rfl, hi⟩ := rng_mem hd
    exact ⟨i, rfl, by omega⟩
end
end L2.Pu

set_option Elab.async false
set_option linter.all false
set_option maxRecDepth 100000
set_option maxHeartbeats 4000000
namespace L2.Pu
open PySem PySem.Spec PyProof.Rows
open PySem.W (Frag findIn subIn typeIn keepIn hasDictIn specialIn takesIn mroIn kitOne excIn nsIn codeIn)
theorem all_mk {l : PySem.W.OpenLaw} {w : World} {K : Frag} {h : Heap} {mg : Str → Option Value} {fa : Addr} {f_is_name f_has_outer_form f_parts_of f_is_formula f_formulas_in f_features_of f_holds f_is_positive f_L_hand f_L_take f_L_of f_L_some f_L_names f_L_holds f_L_grown f_L_features f_law : Addr} {t_LETTERS : Tok} {t_LONGEST_NAME : Tok} {t_DEEPEST_FORMULA : Tok} {t_MOST_FORMULAS : Tok}
    {od_is_name an_is_name od_has_outer_form an_has_outer_form od_parts_of an_parts_of od_is_formula an_is_formula od_formulas_in an_formulas_in od_features_of an_features_of od_holds an_holds od_is_positive an_is_positive od_L_hand an_L_hand od_L_take an_L_take od_L_of an_L_of od_L_some an_L_some od_L_names an_L_names od_L_holds an_L_holds od_L_grown an_L_grown od_L_features an_L_features od_law an_law : Option Addr}
    {sl_is_name sl_has_outer_form sl_parts_of sl_is_formula sl_formulas_in sl_features_of sl_holds sl_is_positive sl_L_hand sl_L_take sl_L_of sl_L_some sl_L_names sl_L_holds sl_L_grown sl_L_features sl_law : Array (Option Value)}
    {oc_is_name kV_is_name dc_is_name pm_is_name cd_is_name ct_is_name oc_has_outer_form kV_has_outer_form dc_has_outer_form pm_has_outer_form cd_has_outer_form ct_has_outer_form oc_parts_of kV_parts_of dc_parts_of pm_parts_of cd_parts_of ct_parts_of oc_is_formula kV_is_formula dc_is_formula pm_is_formula cd_is_formula ct_is_formula oc_formulas_in kV_formulas_in dc_formulas_in pm_formulas_in cd_formulas_in ct_formulas_in oc_features_of kV_features_of dc_features_of pm_features_of cd_features_of ct_features_of oc_holds kV_holds dc_holds pm_holds cd_holds ct_holds oc_is_positive kV_is_positive dc_is_positive pm_is_positive cd_is_positive ct_is_positive oc_L_hand kV_L_hand dc_L_hand pm_L_hand cd_L_hand ct_L_hand oc_L_take kV_L_take dc_L_take pm_L_take cd_L_take ct_L_take oc_L_of kV_L_of dc_L_of pm_L_of cd_L_of ct_L_of oc_L_some kV_L_some dc_L_some pm_L_some cd_L_some ct_L_some oc_L_names kV_L_names dc_L_names pm_L_names cd_L_names ct_L_names oc_L_holds kV_L_holds dc_L_holds pm_L_holds cd_L_holds ct_L_holds oc_L_grown kV_L_grown dc_L_grown pm_L_grown cd_L_grown ct_L_grown oc_L_features kV_L_features dc_L_features pm_L_features cd_L_features ct_L_features oc_law kV_law dc_law pm_law cd_law ct_law : Value}
    (X : K.In h) (G : h.Ns mainGlobals mg) (hfa : mg "law" = some (.ref fa))
    (a_is_name : nsIn K mainGlobals "is_name" = some (some (.ref f_is_name)))
    (l_is_name : K.lookup f_is_name = some ⟨oc_is_name, od_is_name, .func (PySem.W.fnOf "is_name" "is_name" (defArgs s_is_name) (defBody s_is_name) (defScope s_is_name) .none kV_is_name dc_is_name pm_is_name an_is_name cd_is_name ct_is_name), sl_is_name⟩)
    (c_is_name : codeIn K cd_is_name "is_name" = true)
    (k_is_name : keepIn K (.ref f_is_name) = true)
    (a_has_outer_form : nsIn K mainGlobals "has_outer_form" = some (some (.ref f_has_outer_form)))
    (l_has_outer_form : K.lookup f_has_outer_form = some ⟨oc_has_outer_form, od_has_outer_form, .func (PySem.W.fnOf "has_outer_form" "has_outer_form" (defArgs s_has_outer_form) (defBody s_has_outer_form) (defScope s_has_outer_form) .none kV_has_outer_form dc_has_outer_form pm_has_outer_form an_has_outer_form cd_has_outer_form ct_has_outer_form), sl_has_outer_form⟩)
    (c_has_outer_form : codeIn K cd_has_outer_form "has_outer_form" = true)
    (k_has_outer_form : keepIn K (.ref f_has_outer_form) = true)
    (a_parts_of : nsIn K mainGlobals "parts_of" = some (some (.ref f_parts_of)))
    (l_parts_of : K.lookup f_parts_of = some ⟨oc_parts_of, od_parts_of, .func (PySem.W.fnOf "parts_of" "parts_of" (defArgs s_parts_of) (defBody s_parts_of) (defScope s_parts_of) .none kV_parts_of dc_parts_of pm_parts_of an_parts_of cd_parts_of ct_parts_of), sl_parts_of⟩)
    (c_parts_of : codeIn K cd_parts_of "parts_of" = true)
    (k_parts_of : keepIn K (.ref f_parts_of) = true)
    (a_is_formula : nsIn K mainGlobals "is_formula" = some (some (.ref f_is_formula)))
    (l_is_formula : K.lookup f_is_formula = some ⟨oc_is_formula, od_is_formula, .func (PySem.W.fnOf "is_formula" "is_formula" (defArgs s_is_formula) (defBody s_is_formula) (defScope s_is_formula) .none kV_is_formula dc_is_formula pm_is_formula an_is_formula cd_is_formula ct_is_formula), sl_is_formula⟩)
    (c_is_formula : codeIn K cd_is_formula "is_formula" = true)
    (k_is_formula : keepIn K (.ref f_is_formula) = true)
    (a_formulas_in : nsIn K mainGlobals "formulas_in" = some (some (.ref f_formulas_in)))
    (l_formulas_in : K.lookup f_formulas_in = some ⟨oc_formulas_in, od_formulas_in, .func (PySem.W.fnOf "formulas_in" "formulas_in" (defArgs s_formulas_in) (defBody s_formulas_in) (defScope s_formulas_in) .none kV_formulas_in dc_formulas_in pm_formulas_in an_formulas_in cd_formulas_in ct_formulas_in), sl_formulas_in⟩)
    (c_formulas_in : codeIn K cd_formulas_in "formulas_in" = true)
    (k_formulas_in : keepIn K (.ref f_formulas_in) = true)
    (a_features_of : nsIn K mainGlobals "features_of" = some (some (.ref f_features_of)))
    (l_features_of : K.lookup f_features_of = some ⟨oc_features_of, od_features_of, .func (PySem.W.fnOf "features_of" "features_of" (defArgs s_features_of) (defBody s_features_of) (defScope s_features_of) .none kV_features_of dc_features_of pm_features_of an_features_of cd_features_of ct_features_of), sl_features_of⟩)
    (c_features_of : codeIn K cd_features_of "features_of" = true)
    (k_features_of : keepIn K (.ref f_features_of) = true)
    (a_holds : nsIn K mainGlobals "holds" = some (some (.ref f_holds)))
    (l_holds : K.lookup f_holds = some ⟨oc_holds, od_holds, .func (PySem.W.fnOf "holds" "holds" (defArgs s_holds) (defBody s_holds) (defScope s_holds) .none kV_holds dc_holds pm_holds an_holds cd_holds ct_holds), sl_holds⟩)
    (c_holds : codeIn K cd_holds "holds" = true)
    (k_holds : keepIn K (.ref f_holds) = true)
    (a_is_positive : nsIn K mainGlobals "is_positive" = some (some (.ref f_is_positive)))
    (l_is_positive : K.lookup f_is_positive = some ⟨oc_is_positive, od_is_positive, .func (PySem.W.fnOf "is_positive" "is_positive" (defArgs s_is_positive) (defBody s_is_positive) (defScope s_is_positive) .none kV_is_positive dc_is_positive pm_is_positive an_is_positive cd_is_positive ct_is_positive), sl_is_positive⟩)
    (c_is_positive : codeIn K cd_is_positive "is_positive" = true)
    (k_is_positive : keepIn K (.ref f_is_positive) = true)
    (a_L_hand : nsIn K mainGlobals "_law_hand" = some (some (.ref f_L_hand)))
    (l_L_hand : K.lookup f_L_hand = some ⟨oc_L_hand, od_L_hand, .func (PySem.W.fnOf "_law_hand" "_law_hand" (defArgs s_L_hand) (defBody s_L_hand) (defScope s_L_hand) .none kV_L_hand dc_L_hand pm_L_hand an_L_hand cd_L_hand ct_L_hand), sl_L_hand⟩)
    (c_L_hand : codeIn K cd_L_hand "_law_hand" = true)
    (k_L_hand : keepIn K (.ref f_L_hand) = true)
    (a_L_take : nsIn K mainGlobals "_law_take" = some (some (.ref f_L_take)))
    (l_L_take : K.lookup f_L_take = some ⟨oc_L_take, od_L_take, .func (PySem.W.fnOf "_law_take" "_law_take" (defArgs s_L_take) (defBody s_L_take) (defScope s_L_take) .none kV_L_take dc_L_take pm_L_take an_L_take cd_L_take ct_L_take), sl_L_take⟩)
    (c_L_take : codeIn K cd_L_take "_law_take" = true)
    (k_L_take : keepIn K (.ref f_L_take) = true)
    (a_L_of : nsIn K mainGlobals "_law_of" = some (some (.ref f_L_of)))
    (l_L_of : K.lookup f_L_of = some ⟨oc_L_of, od_L_of, .func (PySem.W.fnOf "_law_of" "_law_of" (defArgs s_L_of) (defBody s_L_of) (defScope s_L_of) .none kV_L_of dc_L_of pm_L_of an_L_of cd_L_of ct_L_of), sl_L_of⟩)
    (c_L_of : codeIn K cd_L_of "_law_of" = true)
    (k_L_of : keepIn K (.ref f_L_of) = true)
    (a_L_some : nsIn K mainGlobals "_law_some" = some (some (.ref f_L_some)))
    (l_L_some : K.lookup f_L_some = some ⟨oc_L_some, od_L_some, .func (PySem.W.fnOf "_law_some" "_law_some" (defArgs s_L_some) (defBody s_L_some) (defScope s_L_some) .none kV_L_some dc_L_some pm_L_some an_L_some cd_L_some ct_L_some), sl_L_some⟩)
    (c_L_some : codeIn K cd_L_some "_law_some" = true)
    (k_L_some : keepIn K (.ref f_L_some) = true)
    (a_L_names : nsIn K mainGlobals "_law_names" = some (some (.ref f_L_names)))
    (l_L_names : K.lookup f_L_names = some ⟨oc_L_names, od_L_names, .func (PySem.W.fnOf "_law_names" "_law_names" (defArgs s_L_names) (defBody s_L_names) (defScope s_L_names) .none kV_L_names dc_L_names pm_L_names an_L_names cd_L_names ct_L_names), sl_L_names⟩)
    (c_L_names : codeIn K cd_L_names "_law_names" = true)
    (k_L_names : keepIn K (.ref f_L_names) = true)
    (a_L_holds : nsIn K mainGlobals "_law_holds" = some (some (.ref f_L_holds)))
    (l_L_holds : K.lookup f_L_holds = some ⟨oc_L_holds, od_L_holds, .func (PySem.W.fnOf "_law_holds" "_law_holds" (defArgs s_L_holds) (defBody s_L_holds) (defScope s_L_holds) .none kV_L_holds dc_L_holds pm_L_holds an_L_holds cd_L_holds ct_L_holds), sl_L_holds⟩)
    (c_L_holds : codeIn K cd_L_holds "_law_holds" = true)
    (k_L_holds : keepIn K (.ref f_L_holds) = true)
    (a_L_grown : nsIn K mainGlobals "_law_grown" = some (some (.ref f_L_grown)))
    (l_L_grown : K.lookup f_L_grown = some ⟨oc_L_grown, od_L_grown, .func (PySem.W.fnOf "_law_grown" "_law_grown" (defArgs s_L_grown) (defBody s_L_grown) (defScope s_L_grown) .none kV_L_grown dc_L_grown pm_L_grown an_L_grown cd_L_grown ct_L_grown), sl_L_grown⟩)
    (c_L_grown : codeIn K cd_L_grown "_law_grown" = true)
    (k_L_grown : keepIn K (.ref f_L_grown) = true)
    (a_L_features : nsIn K mainGlobals "_law_features" = some (some (.ref f_L_features)))
    (l_L_features : K.lookup f_L_features = some ⟨oc_L_features, od_L_features, .func (PySem.W.fnOf "_law_features" "_law_features" (defArgs s_L_features) (defBody s_L_features) (defScope s_L_features) .none kV_L_features dc_L_features pm_L_features an_L_features cd_L_features ct_L_features), sl_L_features⟩)
    (c_L_features : codeIn K cd_L_features "_law_features" = true)
    (k_L_features : keepIn K (.ref f_L_features) = true)
    (a_law : nsIn K mainGlobals "law" = some (some (.ref f_law)))
    (l_law : K.lookup f_law = some ⟨oc_law, od_law, .func (PySem.W.fnOf "law" "law" (defArgs s_law) (defBody s_law) (defScope s_law) .none kV_law dc_law pm_law an_law cd_law ct_law), sl_law⟩)
    (c_law : codeIn K cd_law "law" = true)
    (k_law : keepIn K (.ref f_law) = true)
    (g_LETTERS : nsIn K mainGlobals "LETTERS" = some (some (.str "abcdefghijklmnopqrstuvwxyz" t_LETTERS)))
    (g_LONGEST_NAME : nsIn K mainGlobals "LONGEST_NAME" = some (some (.int 8 t_LONGEST_NAME)))
    (g_DEEPEST_FORMULA : nsIn K mainGlobals "DEEPEST_FORMULA" = some (some (.int 10 t_DEEPEST_FORMULA)))
    (g_MOST_FORMULAS : nsIn K mainGlobals "MOST_FORMULAS" = some (some (.int 400 t_MOST_FORMULAS)))
    (z_abs : nsIn K mainGlobals "abs" = some none)
    (z_all : nsIn K mainGlobals "all" = some none)
    (z_any : nsIn K mainGlobals "any" = some none)
    (z_int : nsIn K mainGlobals "int" = some none)
    (z_isinstance : nsIn K mainGlobals "isinstance" = some none)
    (z_len : nsIn K mainGlobals "len" = some none)
    (z_max : nsIn K mainGlobals "max" = some none)
    (z_min : nsIn K mainGlobals "min" = some none)
    (z_range : nsIn K mainGlobals "range" = some none)
    (z_repr : nsIn K mainGlobals "repr" = some none)
    (z_set : nsIn K mainGlobals "set" = some none)
    (z_sorted : nsIn K mainGlobals "sorted" = some none)
    (z_str : nsIn K mainGlobals "str" = some none)
    (z_tuple : nsIn K mainGlobals "tuple" = some none) :
    ∃ (fd : FuncData) (ts : List (Addr × Addr × Str)), (∀ t ∈ ts, h.get? t.2.1 = some { cls := .none, data := .fields #[] } ∧ K.lookup t.2.1 = none ∧ PySem.W.CodeHd h t.1 t.2.1) ∧
        (∀ (s : Shared) (u : Value), BindsTo s fd ⟨[u], []⟩ [("_law_script", u)]) ∧
        ∀ base : Heap, K.In base → base.Ns mainGlobals mg → SysB base → (∀ t ∈ ts, LamX.TabB base mg t.1 t.2.1) → Fu.FnG l.prog w K mg base CX0 13 fa fd ["_law_script"] (liftP ⟨l.prog, w, K, ts.map fun t => (t.2.1, t.2.2), base⟩ spLawP) := by
  have e := hfa.symm.trans (PySem.W.mg_of X G a_law)
  cases e
  have F_is_name := fun_mk (st := s_is_name) l_is_name c_is_name k_is_name
  have b_is_name := F_is_name.binds (ps := p_is_name) fun _ _ _ _ _ _ us hl => match us, hl with | [_], _ => rfl
  have F_has_outer_form := fun_mk (st := s_has_outer_form) l_has_outer_form c_has_outer_form k_has_outer_form
  have b_has_outer_form := F_has_outer_form.binds (ps := p_has_outer_form) fun _ _ _ _ _ _ us hl => match us, hl with | [_], _ => rfl
  have F_parts_of := fun_mk (st := s_parts_of) l_parts_of c_parts_of k_parts_of
  have b_parts_of := F_parts_of.binds (ps := p_parts_of) fun _ _ _ _ _ _ us hl => match us, hl with | [_], _ => rfl
  have F_is_formula := fun_mk (st := s_is_formula) l_is_formula c_is_formula k_is_formula
  have b_is_formula := F_is_formula.binds (ps := p_is_formula) fun _ _ _ _ _ _ us hl => match us, hl with | [_], _ => rfl
  have F_formulas_in := fun_mk (st := s_formulas_in) l_formulas_in c_formulas_in k_formulas_in
  have b_formulas_in := F_formulas_in.binds (ps := p_formulas_in) fun _ _ _ _ _ _ us hl => match us, hl with | [_], _ => rfl
  have F_features_of := fun_mk (st := s_features_of) l_features_of c_features_of k_features_of
  have b_features_of := F_features_of.binds (ps := p_features_of) fun _ _ _ _ _ _ us hl => match us, hl with | [_], _ => rfl
  have F_holds := fun_mk (st := s_holds) l_holds c_holds k_holds
  have b_holds := F_holds.binds (ps := p_holds) fun _ _ _ _ _ _ us hl => match us, hl with | [_, _], _ => rfl
  have F_is_positive := fun_mk (st := s_is_positive) l_is_positive c_is_positive k_is_positive
  have b_is_positive := F_is_positive.binds (ps := p_is_positive) fun _ _ _ _ _ _ us hl => match us, hl with | [_], _ => rfl
  have F_L_hand := fun_mk (st := s_L_hand) l_L_hand c_L_hand k_L_hand
  have b_L_hand := F_L_hand.binds (ps := p_L_hand) fun _ _ _ _ _ _ us hl => match us, hl with | [_, _], _ => rfl
  have F_L_take := fun_mk (st := s_L_take) l_L_take c_L_take k_L_take
  have b_L_take := F_L_take.binds (ps := p_L_take) fun _ _ _ _ _ _ us hl => match us, hl with | [_, _], _ => rfl
  have F_L_of := fun_mk (st := s_L_of) l_L_of c_L_of k_L_of
  have b_L_of := F_L_of.binds (ps := p_L_of) fun _ _ _ _ _ _ us hl => match us, hl with | [_, _], _ => rfl
  have F_L_some := fun_mk (st := s_L_some) l_L_some c_L_some k_L_some
  have b_L_some := F_L_some.binds (ps := p_L_some) fun _ _ _ _ _ _ us hl => match us, hl with | [_, _, _], _ => rfl
  have F_L_names := fun_mk (st := s_L_names) l_L_names c_L_names k_L_names
  have b_L_names := F_L_names.binds (ps := p_L_names) fun _ _ _ _ _ _ us hl => match us, hl with | [_, _], _ => rfl
  have F_L_holds := fun_mk (st := s_L_holds) l_L_holds c_L_holds k_L_holds
  have b_L_holds := F_L_holds.binds (ps := p_L_holds) fun _ _ _ _ _ _ us hl => match us, hl with | [_, _], _ => rfl
  have F_L_grown := fun_mk (st := s_L_grown) l_L_grown c_L_grown k_L_grown
  have b_L_grown := F_L_grown.binds (ps := p_L_grown) fun _ _ _ _ _ _ us hl => match us, hl with | [_, _], _ => rfl
  have F_L_features := fun_mk (st := s_L_features) l_L_features c_L_features k_L_features
  have b_L_features := F_L_features.binds (ps := p_L_features) fun _ _ _ _ _ _ us hl => match us, hl with | [_], _ => rfl
  have F_law := fun_mk (st := s_law) l_law c_law k_law
  have b_law := F_law.binds (ps := p_law) fun _ _ _ _ _ _ us hl => match us, hl with | [_], _ => rfl
  refine ⟨PySem.W.fnOf "law" "law" (defArgs s_law) (defBody s_law) (defScope s_law) .none kV_law dc_law pm_law an_law cd_law ct_law, [], ?_, fun s v => .of_eq rfl, fun base bK bG hsys hT => ?_⟩
  · exact (fun _ z => absurd z List.not_mem_nil)
  show Fu.FnG l.prog w K mg base CX0 13 fa _ p_law (liftP ⟨l.prog, w, K, [], base⟩ spLawP)
  generalize hτ : ([] : Tb) = τ
  have G_L_hand : PFnH l.prog w K mg base 1 "_law_hand" p_L_hand := ⟨f_L_hand, _, Fu.FnG.of (okn_hand F_L_hand (PySem.W.mg_none_of X G z_len) (PySem.W.mg_none_of X G z_abs) (PySem.W.mg_none_of X G z_int)), PySem.W.mg_of X G a_L_hand, k_L_hand, b_L_hand⟩
  have G_L_take : PFn τ l.prog w K mg base 1 "_law_take" p_L_take spTake := pfn_take (Fu.FnG.of (okn_take F_L_take)) (PySem.W.mg_of X G a_L_take) k_L_take b_L_take ⟨_, _, _, l_L_take⟩
  have G_is_name := pf_is_name (P := l.prog) (w := w) (base := base) (τ := τ) F_is_name (PySem.W.mg_of X G a_is_name) k_is_name b_is_name (PySem.W.mg_none_of X G z_all) (PySem.W.mg_none_of X G z_isinstance) (PySem.W.mg_none_of X G z_len) (PySem.W.mg_none_of X G z_str) (PySem.W.mg_of X G g_LETTERS) (PySem.W.mg_of X G g_LONGEST_NAME) 
  have G_L_of := pf_L_of (P := l.prog) (w := w) (base := base) (τ := τ) F_L_of (PySem.W.mg_of X G a_L_of) k_L_of b_L_of (PySem.W.mg_none_of X G z_len) G_L_take
  have G_L_some := pf_L_some (P := l.prog) (w := w) (base := base) (τ := τ) F_L_some (PySem.W.mg_of X G a_L_some) k_L_some b_L_some (PySem.W.mg_none_of X G z_tuple) G_L_take
  have G_L_names := pf_L_names (P := l.prog) (w := w) (base := base) (τ := τ) F_L_names (PySem.W.mg_of X G a_L_names) k_L_names b_L_names (PySem.W.mg_none_of X G z_len) G_L_take
  have G_has_outer_form := pf_has_outer_form (P := l.prog) (w := w) (base := base) (τ := τ) F_has_outer_form (PySem.W.mg_of X G a_has_outer_form) k_has_outer_form b_has_outer_form (PySem.W.mg_none_of X G z_isinstance) (PySem.W.mg_none_of X G z_len) (PySem.W.mg_none_of X G z_str) (PySem.W.mg_none_of X G z_tuple) G_is_name
  have G_parts_ofA := pf_parts_ofA (P := l.prog) (w := w) (base := base) (τ := τ) F_parts_of (PySem.W.mg_of X G a_parts_of) k_parts_of b_parts_of 
  have G_is_formula := pf_is_formula (P := l.prog) (w := w) (base := base) (τ := τ) F_is_formula (PySem.W.mg_of X G a_is_formula) k_is_formula b_is_formula (PySem.W.mg_none_of X G z_len) (PySem.W.mg_of X G g_DEEPEST_FORMULA) (PySem.W.mg_of X G g_MOST_FORMULAS) G_has_outer_form G_parts_ofA
  have G_formulas_inE := pf_formulas_inE (P := l.prog) (w := w) (base := base) (τ := τ) F_formulas_in (PySem.W.mg_of X G a_formulas_in) k_formulas_in b_formulas_in G_parts_ofA
  have G_features_of04 := pf_features_of04 (P := l.prog) (w := w) (base := base) (τ := τ) F_features_of (PySem.W.mg_of X G a_features_of) k_features_of b_features_of (PySem.W.mg_none_of X G z_sorted) (PySem.W.mg_none_of X G z_tuple) G_formulas_inE
  have G_is_positive := pf_is_positive (P := l.prog) (w := w) (base := base) (τ := τ) F_is_positive (PySem.W.mg_of X G a_is_positive) k_is_positive b_is_positive (PySem.W.mg_none_of X G z_all) G_formulas_inE
  have G_parts_ofV := pf_parts_ofV (P := l.prog) (w := w) (base := base) (τ := τ) F_parts_of (PySem.W.mg_of X G a_parts_of) k_parts_of b_parts_of 
  have G_holdsV := pf_holdsV (P := l.prog) (w := w) (base := base) (τ := τ) F_holds (PySem.W.mg_of X G a_holds) k_holds b_holds (PySem.W.mg_none_of X G z_all) (PySem.W.mg_none_of X G z_any) G_parts_ofV 10
  have G_L_holdsV := pf_L_holdsV (P := l.prog) (w := w) (base := base) (τ := τ) F_L_holds (PySem.W.mg_of X G a_L_holds) k_L_holds b_L_holds (PySem.W.mg_none_of X G z_all) (PySem.W.mg_none_of X G z_any) 10
  have G_L_features := pf_L_features (P := l.prog) (w := w) (base := base) (τ := τ) F_L_features (PySem.W.mg_of X G a_L_features) k_L_features b_L_features 10
  have G_L_grown := pf_L_grown (P := l.prog) (w := w) (base := base) (τ := τ) F_L_grown (PySem.W.mg_of X G a_L_grown) k_L_grown b_L_grown (PySem.W.mg_none_of X G z_range) (PySem.W.mg_none_of X G z_tuple) G_L_of G_is_formula
  exact pf_law (P := l.prog) (w := w) (base := base) (τ := τ) F_law (PySem.W.mg_of X G a_law) k_law b_law (PySem.W.mg_none_of X G z_len) (PySem.W.mg_none_of X G z_max) (PySem.W.mg_none_of X G z_min) (PySem.W.mg_none_of X G z_range) (PySem.W.mg_none_of X G z_repr) (PySem.W.mg_none_of X G z_set) (PySem.W.mg_none_of X G z_sorted) (PySem.W.mg_none_of X G z_tuple) hsys G_L_hand G_L_of G_L_names G_L_some G_L_grown G_L_features G_features_of04 G_is_positive G_holdsV G_L_holdsV
end L2.Pu
open PySem PySem.W PyProof.Rows in
set_option maxRecDepth 100000 in
set_option maxHeartbeats 0 in
theorem PySem.Challenge.cw_featureunion_k04_great_formulas_holds : PySem.Challenge.rw_featureunion_k04_great_formulas.Holds := by
  w_on; o_law; k_head; (case hw => w_witness2)
  k_fill
  refine L2.Pu.endTS (l := PySem.Challenge.rw_featureunion_k04_great_formulas) (n := 63) (k := 13) (x := "_law_script") (sp := L2.Pu.spLawP) rfl (by decide) rfl ⟨rfl, by decide, by decide⟩ (by decide +kernel) (fun w h Y => PySem.W.kIn_of Y) ?F (fun ns hl κ k => ⟨ns, rfl, hl, k⟩)
  case F =>
    intro w mg fa h Y KX G hmg
    refine' L2.Pu.all_mk KX G hmg ?a_is_name ?l_is_name ?c_is_name ?k_is_name ?a_has_outer_form ?l_has_outer_form ?c_has_outer_form ?k_has_outer_form ?a_parts_of ?l_parts_of ?c_parts_of ?k_parts_of ?a_is_formula ?l_is_formula ?c_is_formula ?k_is_formula ?a_formulas_in ?l_formulas_in ?c_formulas_in ?k_formulas_in ?a_features_of ?l_features_of ?c_features_of ?k_features_of ?a_holds ?l_holds ?c_holds ?k_holds ?a_is_positive ?l_is_positive ?c_is_positive ?k_is_positive ?a_L_hand ?l_L_hand ?c_L_hand ?k_L_hand ?a_L_take ?l_L_take ?c_L_take ?k_L_take ?a_L_of ?l_L_of ?c_L_of ?k_L_of ?a_L_some ?l_L_some ?c_L_some ?k_L_some ?a_L_names ?l_L_names ?c_L_names ?k_L_names ?a_L_holds ?l_L_holds ?c_L_holds ?k_L_holds ?a_L_grown ?l_L_grown ?c_L_grown ?k_L_grown ?a_L_features ?l_L_features ?c_L_features ?k_L_features ?a_law ?l_law ?c_law ?k_law ?g_LETTERS ?g_LONGEST_NAME ?g_DEEPEST_FORMULA ?g_MOST_FORMULAS ?z_abs ?z_all ?z_any ?z_int ?z_isinstance ?z_len ?z_max ?z_min ?z_range ?z_repr ?z_set ?z_sorted ?z_str ?z_tuple
    (case a_is_name => k_is)
    (case l_is_name => k_is)
    (case c_is_name => k_is)
    (case k_is_name => k_is)
    (case a_has_outer_form => k_is)
    (case l_has_outer_form => k_is)
    (case c_has_outer_form => k_is)
    (case k_has_outer_form => k_is)
    (case a_parts_of => k_is)
    (case l_parts_of => k_is)
    (case c_parts_of => k_is)
    (case k_parts_of => k_is)
    (case a_is_formula => k_is)
    (case l_is_formula => k_is)
    (case c_is_formula => k_is)
    (case k_is_formula => k_is)
    (case a_formulas_in => k_is)
    (case l_formulas_in => k_is)
    (case c_formulas_in => k_is)
    (case k_formulas_in => k_is)
    (case a_features_of => k_is)
    (case l_features_of => k_is)
    (case c_features_of => k_is)
    (case k_features_of => k_is)
    (case a_holds => k_is)
    (case l_holds => k_is)
    (case c_holds => k_is)
    (case k_holds => k_is)
    (case a_is_positive => k_is)
    (case l_is_positive => k_is)
    (case c_is_positive => k_is)
    (case k_is_positive => k_is)
    (case a_L_hand => k_is)
    (case l_L_hand => k_is)
    (case c_L_hand => k_is)
    (case k_L_hand => k_is)
    (case a_L_take => k_is)
    (case l_L_take => k_is)
    (case c_L_take => k_is)
    (case k_L_take => k_is)
    (case a_L_of => k_is)
    (case l_L_of => k_is)
    (case c_L_of => k_is)
    (case k_L_of => k_is)
    (case a_L_some => k_is)
    (case l_L_some => k_is)
    (case c_L_some => k_is)
    (case k_L_some => k_is)
    (case a_L_names => k_is)
    (case l_L_names => k_is)
    (case c_L_names => k_is)
    (case k_L_names => k_is)
    (case a_L_holds => k_is)
    (case l_L_holds => k_is)
    (case c_L_holds => k_is)
    (case k_L_holds => k_is)
    (case a_L_grown => k_is)
    (case l_L_grown => k_is)
    (case c_L_grown => k_is)
    (case k_L_grown => k_is)
    (case a_L_features => k_is)
    (case l_L_features => k_is)
    (case c_L_features => k_is)
    (case k_L_features => k_is)
    (case a_law => k_is)
    (case l_law => k_is)
    (case c_law => k_is)
    (case k_law => k_is)
    (case g_LETTERS => k_is)
    (case g_LONGEST_NAME => k_is)
    (case g_DEEPEST_FORMULA => k_is)
    (case g_MOST_FORMULAS => k_is)
    (case z_abs => k_is)
    (case z_all => k_is)
    (case z_any => k_is)
    (case z_int => k_is)
    (case z_isinstance => k_is)
    (case z_len => k_is)
    (case z_max => k_is)
    (case z_min => k_is)
    (case z_range => k_is)
    (case z_repr => k_is)
    (case z_set => k_is)
    (case z_sorted => k_is)
    (case z_str => k_is)
    (case z_tuple => k_is)
