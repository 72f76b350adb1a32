import PyProof.Rows.All
import Wide.All
import OpenK.AllK
import Wide.FinOn
import PyProof.ReprRoads
import KE.KExcIs
import HandS.ForMost
import HandS.Exc
import HandS.ExcOwn
import HandS.ExcInit
import HandS.ExcValue
import HandS.Wide
import HandS.ExcIs
import HandS.ExcField
import HandS.IsInst
import HandS.More
import HandS.SetTxt0
import HandS.SetKeys
import HandS.SetBool
import PyProof.Rows.SetFrom
import HandS.TupAny
import HandS.Deep
import HandS.Text
import HandS.Iter
import HandS.Flow
import HandS.Words
import HandS.Lambda
import HandS.EndTab
import HandS.Style
import KE.KDictPairs
import KE.SortKeyHeap
import HandS.Strs
import HandS.DictComp
import KE.KRevSl
import HandS.TupMul
import KE.SortData
import PySem.Challenge.RW_featureunion_k08_least_requests
set_option Elab.async false
set_option linter.all false
set_option maxRecDepth 100000
set_option maxHeartbeats 4000000
/-! ## Calls where no repr is under way -/
namespace L2.Fu
open PySem PySem.Spec PyProof.Rows

/-- what a def promises to callers around whom no repr runs -/
structure FnG (P : Program) (w : World) (K : PySem.W.Frag) (mg : Str → Option Value) (base : Heap) (CX : CXT) (k : Nat) (f : Addr) (fd : FuncData) (ps : List Str) (sp : Sp) : Prop where
  len : ∀ vs H Q E, sp vs H Q E → vs.length = ps.length
  go : ∀ (A : Around) (outer : List Env) (s : Shared) (H : Hp) (args : Args) (us : List Value) (vs : List V) (Q : VK) (E : XK), A.guards = some [] → Room k A → Env0 P w K mg base A outer s H →
    BindsTo s fd args (ps.zip us) → Vals vs us → sp vs H Q E → codeAny (model P w) A (.call (.ref f) args) (CR CX outer P w H s Q E) s

section
variable {P : Program} {w : World} {K : PySem.W.Frag} {mg : Str → Option Value} {base : Heap}
theorem FnG.of {CX : CXT} {k : Nat} {f : Addr} {fd : FuncData} {ps : List Str} {sp : Sp} (F : FnOk P w K mg base CX k f fd ps sp) : FnG P w K mg base CX k f fd ps sp :=
  ⟨F.len, fun A outer s H args us vs Q E _ hr e b v h => F.run A outer s H args us vs Q E hr e b v h⟩

/-- a def of the text by its body, guards told -/
theorem Fun.okG {x qual : Str} {st : Stmt} {f : Addr} {fd : FuncData} {N ps : List Str} {k : Nat} {sp : Sp} (F : Fun K x qual st f fd) (S : FnScope N ps (defScope st)) (len : ∀ vs H Q E, sp vs H Q E → vs.length = ps.length)
    (body : ∀ (cdv : Value) (A : Around) (outer : List Env) (s : Shared) (H : Hp) (vs : List V) (Q : VK) (E : XK), (A.deeper (envOfC qual (defScope st) s.heap.objs.size f cdv)).guards = some [] →
      Room k (A.deeper (envOfC qual (defScope st) s.heap.objs.size f cdv)) → sp vs H Q E →
      ∃ t, PSs (cxOf CX0 P w K mg base N qual (defScope st) f cdv A outer s H E).nox (defBody st) t ∧ t { nx := fun _ H' => Q .non H', rt := Q } (start N vs) H) : FnG P w K mg base CX0 (k + 1) f fd ps sp := by
  obtain ⟨oc, od, kV, doc, pm, an, cdv, ct, osl, rfl, lk, hcd⟩ := F.ex
  refine ⟨len, fun A outer s H args us vs Q E gd hr e0 hb r hsp => ?_⟩
  have inK : K.In s.heap := e0.mod.kin.keeps fun b o e => (e0.bs b o e).1
  have par : ∀ y ∈ ps.zip us, (defScope st).names.lookup y.1 = some .local ∨ ((defScope st).names.lookup y.1 = some .cell ∧ ((cellsFrom (s.heap.objs.size + 1) (defScope st).names []).lookup y.1).isSome = true) := by
    rintro ⟨n, v⟩ hy
    rcases S.par n (List.of_mem_zip hy).1 with q | q
    · exact .inl q
    · exact .inr ⟨q, PySem.W.cellsFrom_some _ _ _ (.inl q)⟩
  refine codeAny_call_function hr.depth (inK _ _ lk) rfl S.co S.gen rfl (PySem.W.codeRec_of inK hcd) (hb _ _ _ _ ?_)
  refine wpAny_newFunctionEnv_cells S.kind par fun env he s1 x => ?_
  subst he
  refine ⟨(e0.mod.nolimit.keeps fun b o e => (e0.bs b o e).1).keeps x.toInCall.keep, codeAny_func ?_⟩
  obtain ⟨t, ht, hq⟩ := body cdv A outer s H vs Q E gd (hr.deeper _) hsp
  have I0 := inv_start (CX := CX0) (E := E) S hr.hd e0 (len _ _ _ _ hsp) r x
  refine wpAny_mono (ht.nox.run [] s1 (start N vs) H _ I0 hq) (fun fl s' hs => ?_) fun e s' hs => hs
  cases fl with
  | ret u =>
    obtain ⟨v, σ', H', J, rv, q⟩ := hs
    exact ⟨v, H', J.os, J.bare, J.base, J.hok, rv, q⟩
  | next =>
    obtain ⟨σ', H', J, q⟩ := hs
    exact ⟨V.non, H', J.os, J.bare, J.base, J.hok, rfl, q⟩
  | brk => exact hs.elim fun _ z => z.elim fun _ z => z.2.elim
  | cont => exact hs.elim fun _ z => z.elim fun _ z => z.2.elim
end

section
variable {X : Cx} {CX : CXT} {k : Nat} {f : Addr} {fd : FuncData} {ps : List Str} {sp : Sp} {dvs : List V} {ds : List Value} {E : XK} {x : Str} {p pos : Pos} {e : Expr} {es : List Expr} {t : TA}
/-- f(e, ..) where no repr is under way -/
theorem pe_callG (F : FnG X.prog X.w X.K X.mg X.base CX k f fd ps sp) (gd : X.A.guards = some []) (hr : Room k X.A) (hg : Gl X x) (hm : X.mg x = some (.ref f)) (hk : PySem.W.keepIn X.K (.ref f) = true) (hb : Binds X.K fd ps ds) (hd : Vals dvs ds) (hx : Passes CX X E)
    (ha : PA X (e :: es) t) (hdb : (x == ("__debug__" : Str)) = false := by decide) (he : starEach (e :: es) X.env = (false, eval e X.env) :: starEach es X.env := by rfl) (hpl : (backTo pos (starEach es X.env)).any (·.1) = false := by rfl) :
    PE X (.Call (.Name x p) (e :: es) [] pos) (tCall sp dvs E t) := by
  refine ⟨fun pins s σ H Q I h => wpAny_Call_Name_kw (ld_glob I hg hm ?_ hdb)⟩
  refine PySem.W.callWith_K (h₀ := X.base) I.ok.mod.kin hk (thn (ha.run pos pins s σ H _ I h) fun us s1 hh => ?_) he hpl
  obtain ⟨vs, H1, J, r, q⟩ := hh
  refine ⟨J.kIn, ?_⟩
  have rr : Vals (vs ++ dvs) (us ++ ds) := r.append hd
  have ll : (us ++ ds).length = ps.length := rr.length.symm.trans (F.len _ _ _ _ q)
  refine wpAny_call (codeAny_mono (F.go X.A X.stack s1 H1 ⟨us, []⟩ (us ++ ds) (vs ++ dvs) Q E gd hr J.env0 (hb s1 us J.kIn ll) rr q) fun res s2 hq => ?_)
  match res, hq with
  | .error er, hq => exact hx pins σ H1 s1 er s2 J hq
  | .ok (.ret u), hq => exact J.after hq
  | .ok .next, hq => exact hq.elim
  | .ok .brk, hq => exact hq.elim
  | .ok .cont, hq => exact hq.elim
end
end L2.Fu
/-! ## Sets of texts, and how they are sorted -/
namespace L2.Fu
open PySem PySem.Spec PyProof.Rows
open PySem.Froz (SD sObj TxOk addTx tailTx add_x add_ok is_str get_upd)
/-- at a the set of the texts l stands, and its table can be walked -/
def TxR (P : Program) (w : World) (h : Heap) (a : Addr) (l : List Str) : Prop :=
  ∃ D : SD, h.get? a = some (sObj "set" D) ∧ TxOk P w D l ∧ l.Nodup ∧ l.length < scanBound ∧ Ris D.2.2.place.toList ∧ (w.params.followText "set-order" = true ∨ D.2.2.led = true)
def SetT (P : Program) (w : World) (a : Addr) (l : List Str) : HO := .ext fun h => TxR P w h a l
theorem ris_tail (ep : Nat) (es : Array (Int × Value)) {t : SetTable} (wd : Bool) (r : Ris t.place.toList) : Ris (tailTx ep es t wd).2.2.place.toList := by
  unfold tailTx
  split
  · exact relayAll_ris t es _
  · exact r
theorem led_tail (ep : Nat) (es : Array (Int × Value)) (t : SetTable) (wd : Bool) : (tailTx ep es t wd).2.2.led = t.led := by
  unfold tailTx
  split
  · exact relayAll_led t es _
  · rfl
theorem ris_add (h : Int) (v : Value) {D : SD} (r : Ris D.2.2.place.toList) : Ris (addTx h v D).2.2.place.toList := by
  unfold addTx
  refine ris_tail _ _ _ ?_
  have q := layNew_ris D.2.2 D.1 h v r
  split
  · exact q
  · exact q
theorem led_add (h : Int) (v : Value) (D : SD) : (addTx h v D).2.2.led = D.2.2.led := by
  unfold addTx
  rw [led_tail]
  have q := layNew_led D.2.2 D.1 h v
  split
  · exact q
  · exact q
section
variable {P : Program} {w : World} {h h' : Heap} {a : Addr} {l : List Str}
theorem TxR.at (R : TxR P w h a l) (k : ∀ o, h.get? a = some o → h'.get? a = some o) : TxR P w h' a l := by
  obtain ⟨D, e, r⟩ := R
  exact ⟨D, k _ e, r⟩
theorem setT_new {H : Hp} (R : TxR P w h a l) : ObjOk P w H h a (SetT P w a l) := by
  obtain ⟨D, e, r⟩ := id R
  exact ⟨R, ⟨_, e⟩, fun h1 h2 p k => p.at k⟩
theorem TxR.setOf (R : TxR P w h a l) : h.SetOf (strKind P w) a (fun k => decide (k ∈ l)) l.length := by
  obtain ⟨⟨es, ep, t⟩, e, F, nd, hb, _⟩ := R
  have sz : es.size = l.length := F.sz
  exact ⟨_, es, ep, t, e, ⟨rfl, rfl, rfl⟩, rfl, F.el, fun k => by rw [decide_eq_true_eq]; exact F.mem k, by rw [sz]; exact hb, F.fit, sz⟩
end
section
variable {P : Program} {w : World} {A : Around} {E : Value → Shared → Prop} {s : Shared} {a : Addr} {l : List Str}
/-- add of a text that is there -/
theorem had_x {T : String} {D : SD} {k : Str} {u : Tok} {Q : Bool → Shared → Prop} (ho : s.heap.get? a = some (sObj T D)) (F : TxOk P w D l) (hk : k ∈ l) (hb : l.length < scanBound) (h : Q false s) :
    wpAny (model P w) A (setAddHashed a (.str k u) (hashStr w k)) Q E s := by
  obtain ⟨es, ep, t⟩ := D
  have sz : es.size = l.length := F.sz
  have el : ElemsOf (strKind P w) es.toList := F.el
  unfold setAddHashed setAddHashedIn
  refine wpAny_holding (wpAny_bind (wpAny_setState_of ho rfl F.fit ?_))
  dsimp only
  rw [byScan_of (knd := strKind P w) rfl (by rw [sz]; exact hb) el]
  simp only [↓reduceIte]
  unfold setAddByScan
  refine wpAny_bind (wpAny_bind (wpAny_rule (wpAny_bind (wpAny_setScan_of (knd := strKind P w) (k := k) (is_str k u) ho rfl F.fit el ?_))))
  obtain ⟨e, he, q⟩ := (F.mem k).mp hk
  cases hfi : List.findIdx? (fun e => (strKind P w).is k e.2) es.toList with
  | some j =>
    dsimp only
    exact wpAny_pure (wpAny_pure h)
  | none =>
    have c := List.findIdx?_eq_none_iff.mp hfi e he
    rw [q] at c
    cases c
/-- set.add of a text -/
theorem setT_add {k : Str} {u : Tok} {Q : Value → Shared → Prop} (R : TxR P w s.heap a l) (room : l.length + 1 < scanBound)
    (hQ : ∀ h', Heap.SameBut a s.heap h' → TxR P w h' a (if k ∈ l then l else k :: l) → Q .none { s with heap := h', toks := s.toks + 1 }) :
    wpAny (model P w) A (call (.builtin "set.add") [.ref a, .str k u]) Q E s := by
  refine wpAny_call_entry F.slot_set_add R.setOf.typeIs F.entry_set_add ?_ (F.args_set_add_2 _ _)
  unfold Builtin.«set.add» Builtin.Frozenset.oneOther
  simp only [List.isEmpty_nil, bind_assoc]
  unfold Builtin.Frozenset.addrOf setAdd
  refine wpAny_bind (wpAny_pure ?_)
  try dsimp only
  refine wpAny_bind (wpAny_pure ?_)
  try dsimp only
  refine wpAny_bind (wpAny_holding (wpAny_bind ((strKind P w).pyHash (is_str k u) ?_)))
  obtain ⟨D, e, F, nd, hb, r, ld⟩ := R
  have fin : ∀ (h' : Heap), Heap.SameBut a s.heap h' → TxR P w h' a (if k ∈ l then l else k :: l) → wpAny (model P w) A.in1 (ret Value.none) (fun v s' => ∃ z, v = .done (.ret z) ∧ Q z s') E { s with heap := h', toks := s.toks + 1 } := fun h' sb t => wpAny_pure ⟨_, rfl, hQ h' sb t⟩
  by_cases hk : k ∈ l
  · refine had_x (s := { s with toks := s.toks + 1 }) e F hk hb ?_
    exact fin s.heap (Heap.SameBut.refl a s.heap) (by rw [if_pos hk]; exact ⟨D, e, F, nd, hb, r, ld⟩)
  · refine add_x (s := { s with toks := s.toks + 1 }) e F hk room ?_
    refine fin _ (Heap.SameBut.update s.heap a _) ?_
    rw [if_neg hk]
    exact ⟨_, get_upd _ e rfl, add_ok u F, List.nodup_cons.mpr ⟨hk, nd⟩, room, ris_add _ _ r, ld.imp id fun z => by rw [led_add]; exact z⟩
end
/-- a list that has all of l, and no more places than l, is an arrangement of l -/
theorem perm_of_all {α : Type} [DecidableEq α] : ∀ {l ks : List α}, l.Nodup → ks.length = l.length → (∀ x ∈ l, x ∈ ks) → ks.Perm l
  | [], ks, _, hl, _ => by
    have e : ks = [] := List.length_eq_zero_iff.mp hl
    rw [e]
  | x :: l, ks, nd, hl, ha => by
    have hx : x ∈ ks := ha x List.mem_cons_self
    have p := List.perm_cons_erase hx
    have h1 : (ks.erase x).length = l.length := by
      have := p.length_eq
      rw [List.length_cons] at this hl
      omega
    have h2 : ∀ y ∈ l, y ∈ ks.erase x := fun y hy => by
      have ne : y ≠ x := fun z => (List.nodup_cons.mp nd).1 (z ▸ hy)
      exact (List.mem_erase_of_ne ne).mpr (ha y (List.mem_cons_of_mem _ hy))
    exact p.trans (List.Perm.cons x (perm_of_all (List.nodup_cons.mp nd).2 h1 h2))
def textOf : Value → Str
  | .str x _ => x
  | _ => ⟨#[]⟩
theorem strs_of : ∀ (vs : List Value), (∀ v ∈ vs, ∃ x t, v = Value.str x t) → StrsAre vs (vs.map textOf)
  | [], _ => .nil
  | v :: vs, h => by
    obtain ⟨x, t, rfl⟩ := h v List.mem_cons_self
    exact .cons x t (strs_of vs fun u hu => h u (List.mem_cons_of_mem _ hu))
section
variable {X : Cx}
theorem setT_get {pins : List (Addr × Obj)} {σ : St} {H : Hp} {s : Shared} {a : Addr} {l : List Str} (I : Inv X pins σ H s) (ha : H a = some (SetT X.prog X.w a l)) : TxR X.prog X.w s.heap a l := (I.hok a _ ha).1
/-- set() -/
def rSet0T (P : Program) (w : World) : List V → Hp → VK → Prop := fun xs H Q => xs = [] ∧ ∀ p, H p = none → Q (.ref p) (upd H p (SetT P w p []))
theorem fresh_T {P : Program} {w : World} {h : Heap} : TxR P w (h.push { cls := .type "set", dict := none, data := .set #[] 0 (.fresh 0 0 (!w.params.followText "set-order")) }) h.objs.size [] := by
  refine ⟨(#[], 0, .fresh 0 0 (!w.params.followText "set-order")), Heap.get?_push_size _ rfl, .nil rfl, List.nodup_nil, by decide, List.Pairwise.nil, ?_⟩
  show _ ∨ (!w.params.followText "set-order") = true
  cases w.params.followText "set-order"
  · exact .inr rfl
  · exact .inl rfl
theorem cr_set0T : CallR X (.type "set") (rSet0T X.prog X.w) := by
  intro pins s σ H xs us Q I r h
  obtain ⟨rfl, q⟩ := h
  cases r
  exact setR_new fun _ => ⟨.ref _, upd H s.heap.objs.size (SetT X.prog X.w s.heap.objs.size []), I.laid (t' := s.toks) (fun b u e => Heap.get?_push_of_some _ e) (Nat.le_refl _) (setT_new fresh_T), rfl, q _ (I.hok.fresh (Nat.le_refl _))⟩
/-- a text is added, whatever runs -/
theorem addT_ok {pins : List (Addr × Obj)} {σ : St} {H : Hp} {s : Shared} {a : Addr} {l : List Str} {k : Str} {u : Tok} {A : Around} {E : Value → Shared → Prop} {Q : Value → Shared → Prop} (I : Inv X pins σ H s) (ha : H a = some (SetT X.prog X.w a l)) (room : l.length + 1 < scanBound)
    (h : ∀ s', Inv X pins σ (upd H a (SetT X.prog X.w a (if k ∈ l then l else k :: l))) s' → Q .none s') : wpAny (model X.prog X.w) A (call (.builtin "set.add") [.ref a, .str k u]) Q E s := by
  refine setT_add (setT_get I ha) room fun h' sb t => h _ ?_
  have he : ∃ o, h'.get? a = some o := by
    obtain ⟨D, e, _⟩ := id t
    exact ⟨_, e⟩
  exact I.write (x := a) (e := a) (t' := s.toks + 1) (by rw [ha]; trivial) (.inl rfl) (fun b o hb ho => (sb.2 b hb).trans ho) he (setT_new t)
/-- x in found, x not in found -/
def rSInT (P : Program) (w : World) (neg : Bool) : V → V → Hp → VK → Prop := fun x y H Q => ∃ (k : Str) (a : Addr) (l : List Str), x = .str k ∧ y = V.ref a ∧ H a = some (SetT P w a l) ∧ Q (.bl (if neg then !decide (k ∈ l) else decide (k ∈ l))) H
theorem or_sinT : OpR X (compareOp .In) (rSInT X.prog X.w false) := by
  intro pins s σ H x y v u Q I rx ry h
  obtain ⟨k, a, l, rfl, rfl, ha, q⟩ := h
  obtain ⟨t, rfl⟩ := rx
  cases ry
  exact wpAny_inSet_of (is_str k t) rfl (setT_get I ha).setOf ⟨.bl (decide (k ∈ l)), H, I.tok _, rfl, q⟩
theorem or_snotinT : OpR X (compareOp .NotIn) (rSInT X.prog X.w true) := by
  intro pins s σ H x y v u Q I rx ry h
  obtain ⟨k, a, l, rfl, rfl, ha, q⟩ := h
  obtain ⟨t, rfl⟩ := rx
  cases ry
  exact wpAny_notInSet_of (is_str k t) rfl (setT_get I ha).setOf ⟨.bl (!decide (k ∈ l)), H, I.tok _, rfl, q⟩
/-- sorted(found) -/
def rSortT (P : Program) (w : World) : List V → Hp → VK → Prop := fun vs H Q => ∃ (a : Addr) (l : List Str), vs = [V.ref a] ∧ H a = some (SetT P w a l) ∧ l.length < 64 ∧
  ∀ (ys : List Str) (p : Addr), ys.Perm l → sortedS ys = true → H p = none → Q (.ref p) (upd H p (.lst (ys.map V.str)))
theorem cr_sortT (hc : X.calm = true) : CallR X (.builtin "sorted") (rSortT X.prog X.w) := by
  intro pins s σ H xs us Q I r h
  obtain ⟨a, l, rfl, ha, h64, q⟩ := h
  obtain ⟨u, rfl, ru⟩ := vals1 r
  cases ru
  obtain ⟨⟨es, ep, t⟩, e, F, nd, hb, rs, ld⟩ := setT_get I ha
  have sz : es.size = l.length := F.sz
  have el : ElemsOf (strKind X.prog X.w) es.toList := F.el
  refine Calls.call_function_entry kind_sorted plain_sorted entry_sorted (args_sorted1 _) ?_
  unfold Builtin.«sorted»
  refine wpAny_bind (m := checkCount "sorted" 1 1 _) (wpAny_pure ?_)
  refine wpAny_bind (collect_set (A := X.A.in1) (I.ok.hd hc) ⟨_, e, rfl, rfl⟩ F.fit (by rw [sz]; exact hb) rs ld fun s1 vs k1 hz g1 o1 pm => ?_)
  have isT : ∀ v ∈ vs, ∃ x t, v = Value.str x t := fun v hv => by
    obtain ⟨en, he, ev⟩ := List.mem_map.mp (pm.mem_iff.mp hv)
    obtain ⟨⟨k, hk, _⟩, _⟩ := el en he
    obtain ⟨t, et⟩ := Value.isStrOf_shape (x := k) (v := en.2) hk
    exact ⟨k, t, by rw [← ev]; exact et⟩
  have hS : StrsAre vs (vs.map textOf) := strs_of vs isT
  have len : (vs.map textOf).length = l.length := by rw [List.length_map, pm.length_eq, List.length_map, Array.length_toList]; exact sz
  have pl : (vs.map textOf).Perm l := perm_of_all nd len fun k hk => by
    obtain ⟨en, he, hi⟩ := (F.mem k).mp hk
    obtain ⟨t, et⟩ := Value.isStrOf_shape (x := k) (v := en.2) hi
    refine List.mem_map.mpr ⟨en.2, pm.mem_iff.mpr (List.mem_map.mpr ⟨en, he, rfl⟩), ?_⟩
    rw [et]
    rfl
  have vl : vs.length = l.length := by rw [List.length_map] at len; exact len
  obtain ⟨h1, g', d', t', o'⟩ := s1
  have J : Inv X pins σ H ⟨h1, g', d', t', o'⟩ := I.call' (ch := []) o1 (Un.kept k1) (I.hok.kept k1) (by rw [g1]; exact I.bare) (fun _ z => nomatch z)
  refine wpAny_bind (wpAny_newList ?_ (by rw [vl, sizeLine_eq]; omega))
  have hoL : (h1.push (seqObj "list" vs.toArray 0)).get? h1.objs.size = some (seqObj "list" vs.toArray 0) := Heap.get?_push_size _ rfl
  show wpAny _ _ _ _ _ (⟨h1.push (seqObj "list" vs.toArray 0), g', d', t', o'⟩ : Shared)
  refine wpAny_bind (wpAny_holding (wpAny_call_entry slot_list_sort ⟨_, hoL, rfl⟩ entry_list_sort
    (list_sort_treeK strKind_oneLt (s := ⟨h1.push (seqObj "list" vs.toArray 0), g', d', t', o'⟩) hoL hS.keysOf (fun v1 v2 rest e => keyKind_strs (by rw [← e]; exact hS)) (by rw [vl]; exact h64) fun st' hp hs => ⟨_, rfl, ?_⟩) (args_list_sort _)))
  obtain ⟨ys, y1, y2, y3⟩ := sorted_out_str hS hp hs
  obtain ⟨c, hcL⟩ := sortedHeap_at (vs := vs) (out := (arrOf st').map (·.2)) hoL
  have ly : (ys.map V.str).length ≤ sizeLine := by
    rw [List.length_map, y2.length_eq, len]
    exact Nat.le_trans (Nat.le_of_lt h64) (by decide)
  refine wpAny_pure ⟨_, rfl, .ref h1.objs.size, upd H h1.objs.size (.lst (ys.map V.str)), J.laid (t' := t') (fun b o eb => ?_) (Nat.le_refl _)
    (show ObjOk X.prog X.w _ _ _ (.lst (ys.map V.str)) from ⟨ly, ((arrOf st').map (·.2)).toList, c, vals_of_strs y1, by rw [Array.toArray_toList]; exact hcL⟩), rfl, q ys _ (y2.trans pl) y3 (J.hok.fresh (Nat.le_refl _))⟩
  have lb : b < h1.objs.size := Heap.lt_size eb
  rw [sortedHeap_old (Nat.ne_of_lt lb) (by rw [size_push']; exact Nat.lt_succ_of_lt lb)]
  exact Heap.get?_push_of_some _ eb
end
end L2.Fu
/-! ## set(xs), xs a list of texts -/
namespace L2.Fu
open PySem PySem.Spec PyProof.Rows
open PySem.Froz (SD sObj TxOk addTx tailTx add_x add_ok is_str get_upd)
def addL (l : List Str) (k : Str) : List Str := if k ∈ l then l else k :: l
theorem mem_addL {l : List Str} {k x : Str} : x ∈ addL l k ↔ x ∈ l ∨ x = k := by
  unfold addL
  split
  · rename_i h
    exact ⟨.inl, fun z => z.elim id fun e => e ▸ h⟩
  · rw [List.mem_cons]
    exact Or.comm
theorem len_addL (l : List Str) (k : Str) : (addL l k).length ≤ l.length + 1 := by
  unfold addL
  split
  · exact Nat.le_succ _
  · exact Nat.le_refl _
def allL (ts : List Str) : List Str := ts.foldl addL []
theorem allL_snoc (ts : List Str) (k : Str) : allL (ts ++ [k]) = addL (allL ts) k := by
  unfold allL
  rw [List.foldl_append]
  rfl
theorem fold_mem : ∀ (ts l : List Str) (x : Str), x ∈ ts.foldl addL l ↔ x ∈ l ∨ x ∈ ts
  | [], l, x => by simp
  | t :: ts, l, x => by
    rw [List.foldl_cons, fold_mem ts, mem_addL, List.mem_cons]
    exact or_assoc
theorem mem_allL (ts : List Str) (x : Str) : x ∈ allL ts ↔ x ∈ ts := by
  unfold allL
  rw [fold_mem]
  simp
theorem fold_len : ∀ (ts l : List Str), (ts.foldl addL l).length ≤ l.length + ts.length
  | [], l => Nat.le_refl _
  | t :: ts, l => by
    have a := fold_len ts (addL l t)
    have b := len_addL l t
    rw [List.foldl_cons, List.length_cons]
    omega
theorem len_allL (ts : List Str) : (allL ts).length ≤ ts.length := by
  have := fold_len ts []
  simpa [allL] using this
theorem strs_get : ∀ {us : List Value} {xs : List Str} {i : Nat} {v : Value}, StrsAre us xs → us[i]? = some v → ∃ t x, xs[i]? = some x ∧ v = .str x t
  | _, _, _, _, .nil, e => by simp at e
  | _, _, 0, _, .cons y t _, e => by simp at e; exact ⟨t, y, rfl, e.symm⟩
  | _, _, i + 1, v, .cons y t r, e => by
    obtain ⟨t', x, h1, h2⟩ := strs_get (i := i) (v := v) r (by simpa using e)
    exact ⟨t', x, by simpa using h1, h2⟩
section
variable {P : Program} {w : World} {A : Around} {E : Value → Shared → Prop} {s : Shared}
theorem code_newT (v : Value) {Q1 : Value → Shared → Prop}
    (h : Q1 (.ref s.heap.objs.size) { s with heap := s.heap.push { cls := .type "set", dict := none, data := .set #[] 0 (.fresh 0 0 (!w.params.followText "set-order")) } }) :
    codeAny (model P w) A (.call (.builtin "set.__new__") ⟨[.type "set", v], []⟩) (wants Q1 E) s := by
  refine codeAny_of_tree ?_
  show wpAny _ A.in1 (checkBuiltinCall "set.__new__" ⟨[.type "set", v], []⟩ >>= fun _ => again (.builtin "set.__new__" ⟨[.type "set", v], []⟩)) _ _ s
  refine wpAny_bind (wpAny_of_eq (PySem.F.newCall_set_1 v) (wpAny_pure ⟨plainId_quiet PySem.F.plain_set_new _, codeAny_builtin PySem.F.entry_set_new ?_⟩))
  rw [Around.under_plainId PySem.F.plain_set_new _]
  unfold Builtin.«set.__new__» Builtin.Frozenset.newClass
  have hsub := sub_set_self
  obtain ⟨hp, g, d, tk, os⟩ := s
  dsimp only
  wp_walk
  refine wpAny_askSetting (wpAny_pure ?_)
  dsimp only
  simp only [newObj]
  exact wpAny_bind (wpAny_alloc (wpAny_pure (wpAny_pure h)))
/-- the texts of what is walked are added one by one -/
theorem loopT {R : Result → Shared → Prop} {I : Addr} {fp wr : List Addr} {G : Array GenState → Array GenState → Prop} {ts : List Str} {Pv : Nat → Value → Prop} {St : Nat → Shared → Prop} (W : WalksS P w A.in1 I fp wr G ts.length Pv St) (S : Addr) (hSf : S ∉ fp)
    (hv : ∀ i v, Pv i v → ∃ t x, ts[i]? = some x ∧ v = .str x t) (hb : ts.length + 1 < scanBound) :
    ∀ (k i : Nat) (s : Shared), ts.length - i = k → i ≤ ts.length → St i s → TxR P w s.heap S (allL (ts.take i)) →
      (∀ s', Moved (S :: wr) G s s' → TxR P w s'.heap S (allL ts) → R (.ok (.ret .none)) s') → codeAny (model P w) A (.builtin "set.update.loop" ⟨[.ref S, .ref I], []⟩) R s := by
  have off : S ∉ wr := fun h => hSf (W.sub _ h)
  have sub : ∀ b ∈ wr, b ∈ S :: wr := fun b hb => List.mem_cons_of_mem _ hb
  intro k
  induction k with
  | zero =>
    intro i s hk hi st R0 done
    obtain rfl : i = ts.length := by omega
    rw [List.take_length] at R0
    refine codeAny_builtin PyProof.Rows.F.entry_set_update_loop ?_
    rw [Around.under_plainId PyProof.Rows.F.plain_set_update_loop _]
    show wpAny _ A.in1 (pyNext (.ref I) >>= _) _ _ s
    refine wpAny_bind (W.done s _ _ st fun s' hm => ?_)
    show wpAny _ A.in1 (ret Value.none) _ _ s'
    exact wpAny_pure (done s' (hm.mono sub) (R0.at fun o e => hm.heap S _ off e))
  | succ k ih =>
    intro i s hk hi st R0 done
    have lt : i < ts.length := by omega
    refine codeAny_builtin PyProof.Rows.F.entry_set_update_loop ?_
    rw [Around.under_plainId PyProof.Rows.F.plain_set_update_loop _]
    show wpAny _ A.in1 (pyNext (.ref I) >>= _) _ _ s
    refine wpAny_bind (W.item i s _ _ lt st fun v s' hP st' hm => ?_)
    obtain ⟨t, x, hx, rfl⟩ := hv i v hP
    have R1 : TxR P w s'.heap S (allL (ts.take i)) := R0.at fun o e => hm.heap S _ off e
    have l1 := len_allL (ts.take i)
    rw [List.length_take] at l1
    have tk1 : ts.take (i + 1) = ts.take i ++ [x] := by rw [List.take_add_one, hx]; rfl
    show wpAny _ A.in1 (holding [Value.str x t] (setAdd S (.str x t)) >>= _) _ _ s'
    refine wpAny_bind (wpAny_holding ?_)
    unfold setAdd
    refine wpAny_holding (wpAny_bind ((strKind P w).pyHash (is_str x t) ?_))
    obtain ⟨D, e, F, nd, hb0, r, ld⟩ := R1
    have goOn : ∀ (h' : Heap), Heap.SameBut S s'.heap h' → TxR P w h' S (addL (allL (ts.take i)) x) → codeAny (model P w) A (.builtin "set.update.loop" ⟨[.ref S, .ref I], []⟩) R { s' with heap := h', toks := s'.toks + 1 } := by
      intro h' sb R2
      rw [← allL_snoc, ← tk1] at R2
      refine ih (i + 1) _ (by omega) lt (W.frame _ s' _ _ st' (Nat.le_succ _) fun b hb o e => ?_) R2 fun s2 hm2 R3 => ?_
      · rw [sb.2 b (fun z : b = S => hSf (by rw [← z]; exact hb))]
        exact e
      · refine done s2 (Moved.trans W.gtrans ((hm.mono sub).then_heap (Nat.le_succ _) fun b o hb e => ?_) hm2) R3
        rw [sb.2 b (fun z : b = S => hb (by rw [z]; exact List.mem_cons_self))]
        exact e
    by_cases hk : x ∈ allL (ts.take i)
    · refine had_x (s := { s' with toks := s'.toks + 1 }) e F hk hb0 ?_
      exact wpAny_pure ⟨plainId_quiet PyProof.Rows.F.plain_set_update_loop _, goOn _ (Heap.SameBut.refl S s'.heap) (by unfold addL; rw [if_pos hk]; exact ⟨D, e, F, nd, hb0, r, ld⟩)⟩
    · have room : (allL (ts.take i)).length + 1 < scanBound := by omega
      refine add_x (s := { s' with toks := s'.toks + 1 }) e F hk room ?_
      refine wpAny_pure ⟨plainId_quiet PyProof.Rows.F.plain_set_update_loop _, goOn _ (Heap.SameBut.update s'.heap S _) ?_⟩
      unfold addL
      rw [if_neg hk]
      exact ⟨_, get_upd _ e rfl, add_ok t F, List.nodup_cons.mpr ⟨hk, nd⟩, room, ris_add _ _ r, ld.imp id fun z => by rw [led_add]; exact z⟩
/-- set(xs) at the library's level -/
theorem set_of_list {l : Addr} {items : Array Value} {ts : List Str} {Q : Value → Shared → Prop} (hh : A.handled = none) (hl : s.heap.IsList l items) (hi : StrsAre items.toList ts) (hb : ts.length + 1 < scanBound)
    (h : ∀ (h' : Heap) (tk : Nat), TxR P w h' s.heap.objs.size (allL ts) → (∀ b o, s.heap.get? b = some o → h'.get? b = some o) → Q (.ref s.heap.objs.size) { s with heap := h', toks := tk }) :
    wpAny (model P w) A (call (.type "set") [.ref l]) Q E s := by
  obtain ⟨c, tl, hmro⟩ := PySem.F.called_set.mro
  have hmade := PySem.F.called_set.made
  have hsub := PySem.F.called_set.sub
  refine wpAny_call (codeAny_of_tree ?_)
  show wpAny _ _ (callAny (.type "set") _) _ _ _
  refine wpAny_pure ⟨Code.quiet_builtin _ (by decide +kernel), codeAny_builtin PySem.F.entry_type_call ?_⟩
  rw [Around.under_plain (weight_type_call_type "set" [.ref l] []) rfl]
  have h1 := PySem.F.called_set.notType
  have h2 := PySem.F.called_set.canCreate
  have hct := PySem.F.typeCall_set_1 (.ref l)
  repeat (any_goals (first | assumption | wp_step))
  refine codeAny_mono (code_newT (.ref l) (E := E) (Q1 := fun obj t => obj = .ref s.heap.objs.size ∧ t = { s with heap := s.heap.push { cls := .type "set", dict := none, data := .set #[] 0 (.fresh 0 0 (!w.params.followText "set-order")) } }) ⟨rfl, rfl⟩) fun r t hr => ?_
  match r, hr with
  | .error e, hr => exact hr
  | .ok .next, hr => exact hr.elim
  | .ok .brk, hr => exact hr.elim
  | .ok .cont, hr => exact hr.elim
  | .ok (.ret obj), hr =>
    obtain ⟨rfl, rfl⟩ := hr
    generalize hz : s.heap.push { cls := .type "set", dict := none, data := .set #[] 0 (.fresh 0 0 (!w.params.followText "set-order")) } = hS
    have new : TxR P w hS s.heap.objs.size [] := by rw [← hz]; exact fresh_T
    have keep : ∀ b o, s.heap.get? b = some o → hS.get? b = some o := fun b o e => by rw [← hz]; exact Heap.get?_push_of_some _ e
    have size : hS.objs.size = s.heap.objs.size + 1 := by rw [← hz, Heap.size_push]
    have hT : Shared.TypeIs { s with heap := hS } (.ref s.heap.objs.size) "set" := new.setOf.typeIs
    have hli := PySem.F.called_set.init.lookup
    have hbi := PySem.F.called_set.init.bind (.ref s.heap.objs.size)
    repeat (any_goals (first | assumption | wp_step))
    refine codeAny_mono (codeAny_call_builtin (R := wants (fun r s2 => r = .none ∧ ∃ h' tk, s2 = { s with heap := h', toks := tk } ∧ TxR P w h' s.heap.objs.size (allL ts) ∧ (∀ b o, s.heap.get? b = some o → h'.get? b = some o)) E)
      PySem.F.called_set.init.plain PySem.F.entry_set_init (check_set_init_1 hT ?_)) fun r2 s2 hr2 => ?_
    · obtain ⟨ol, hol, hcl, nl, hdl⟩ := id hl
      obtain ⟨ocls, odict, odata, oslots⟩ := ol
      simp only at hcl hdl
      subst hcl
      subst hdl
      have hol2 : hS.get? l = some { cls := .type "list", dict := odict, data := .seq items nl, slots := oslots } := keep _ _ hol
      have hsls := PySem.F.sub_list_set
      have hslf := PySem.F.sub_list_frozenset
      have hne : (Value.type "list" == Value.type "dict") = false := by decide
      have hl2 : hS.IsList l items := ⟨_, hol2, rfl, nl, rfl⟩
      obtain ⟨D0, e0, F0, _⟩ := id new
      have hS0 : hS.get? s.heap.objs.size = some { cls := .type "set", dict := none, data := .set #[] 0 (.fresh 0 0 (!w.params.followText "set-order")) } := by rw [← hz]; exact Heap.get?_push_size _ rfl
      unfold Builtin.«set.__init__» noKeywords Builtin.Frozenset.updateFrom
      generalize hPI : pyIter = PI
      wp_walk
      subst hPI
      refine wpAny_pyIter_list hl2 (wpAny_bind (wpAny_runValue ?_))
      have low : l < s.heap.objs.size := Heap.lt_size hol
      have nI : l ≠ hS.objs.size := by rw [size]; exact Nat.ne_of_lt (Nat.lt_succ_of_lt low)
      have nf : s.heap.objs.size ∉ [hS.objs.size, l] := by
        rw [size]
        simp only [List.mem_cons, List.not_mem_nil, or_false, not_or]
        exact ⟨Nat.ne_of_lt (Nat.lt_succ_self _), Nat.ne_of_gt low⟩
      have lt : items.size = ts.length := by rw [← Array.length_toList]; exact hi.length
      have walk := (Walks.list (prog := P) (w := w) (A := A.in1.in1.in1) (by simp [hh]) hS.objs.size l nI items).toS
      rw [lt] at walk
      refine loopT walk s.heap.objs.size nf (fun i v hv => ?_) hb (ts.length - 0) 0 _ rfl (Nat.zero_le _) ⟨⟨_, Heap.get?_push_size _ rfl, rfl, rfl⟩, hl2.push _⟩ (new.at fun o e => Heap.get?_push_of_some _ e) fun s3 hm R3 => ?_
      · have hv' : items.toList[i]? = some v := by rw [Array.getElem?_toList]; exact hv
        exact strs_get hi hv'
      · obtain ⟨h3, g3, d3, tk3, os3⟩ := s3
        have eg : g3 = s.gens := hm.gens
        have ed : d3 = s.drawn := hm.drawn
        have eo : os3 = s.os := hm.os
        subst eg
        subst ed
        subst eo
        show wpAny _ _ _ _ _ _
        refine wpAny_pure ?_
        show wpAny _ _ (ret Value.none) _ _ _
        refine wpAny_pure ⟨rfl, h3, tk3, rfl, R3, fun b o e => ?_⟩
        have lb : b < s.heap.objs.size := Heap.lt_size e
        refine hm.heap b o ?_ (Heap.get?_push_of_some _ (keep b o e))
        simp only [List.mem_cons, List.not_mem_nil, or_false, not_or]
        rw [size]
        exact ⟨Nat.ne_of_lt lb, Nat.ne_of_lt (Nat.lt_succ_of_lt lb)⟩
    · match r2, hr2 with
      | .error e, hr2 => exact hr2
      | .ok .next, hr2 => exact hr2.elim
      | .ok .brk, hr2 => exact hr2.elim
      | .ok .cont, hr2 => exact hr2.elim
      | .ok (.ret r), hr2 =>
        obtain ⟨rfl, h', tk, rfl, R3, k3⟩ := hr2
        repeat (any_goals (first | assumption | wp_step))
        exact h _ _ R3 k3
end
section
variable {X : Cx}
def rSetOfL (K : PySem.W.Frag) (P : Program) (w : World) : List V → Hp → VK → Prop := fun xs H Q => ∃ (a : Addr) (ts : List Str), xs = [.ref a] ∧ SqL K H a (ts.map V.str) ∧ ts.length + 1 < scanBound ∧ ∀ p, H p = none → Q (.ref p) (upd H p (SetT P w p (allL ts)))
theorem cr_setOfL (hc : X.calm = true) : CallR X (.type "set") (rSetOfL X.K X.prog X.w) := by
  intro pins s σ H xs us Q I r h
  obtain ⟨a, ts, rfl, hs, hb, q⟩ := h
  obtain ⟨u, rfl, ru⟩ := vals1 r
  cases ru
  obtain ⟨its, rv, hl, _⟩ := I.list hs
  refine set_of_list (I.ok.hd hc) hl.isList (by simpa using rv.strs) hb fun h' tk R k => ?_
  exact ⟨.ref _, upd H s.heap.objs.size (SetT X.prog X.w s.heap.objs.size (allL ts)), I.laid (t' := tk) k (Nat.le_refl _) (setT_new R), rfl, q _ (I.hok.fresh (Nat.le_refl _))⟩
end
end L2.Fu
/-! ## set(t), t a tuple of texts -/
namespace L2.Fu
open PySem PySem.Spec PyProof.Rows
section
variable {P : Program} {w : World} {A : Around} {E : Value → Shared → Prop} {s : Shared}

theorem set_of_tup {l : Addr} {items : Array Value} {ts : List Str} {Q : Value → Shared → Prop} (hh : A.handled = none) (hl : s.heap.IsTuple l items) (hi : StrsAre items.toList ts) (hb : ts.length + 1 < scanBound)
    (h : ∀ (h' : Heap) (tk : Nat), TxR P w h' s.heap.objs.size (allL ts) → (∀ b o, s.heap.get? b = some o → h'.get? b = some o) → Q (.ref s.heap.objs.size) { s with heap := h', toks := tk }) :
    wpAny (model P w) A (call (.type "set") [.ref l]) Q E s := by
  obtain ⟨c, tl, hmro⟩ := PySem.F.called_set.mro
  have hmade := PySem.F.called_set.made
  have hsub := PySem.F.called_set.sub
  refine wpAny_call (codeAny_of_tree ?_)
  show wpAny _ _ (callAny (.type "set") _) _ _ _
  refine wpAny_pure ⟨Code.quiet_builtin _ (by decide +kernel), codeAny_builtin PySem.F.entry_type_call ?_⟩
  rw [Around.under_plain (weight_type_call_type "set" [.ref l] []) rfl]
  have h1 := PySem.F.called_set.notType
  have h2 := PySem.F.called_set.canCreate
  have hct := PySem.F.typeCall_set_1 (.ref l)
  repeat (any_goals (first | assumption | wp_step))
  refine codeAny_mono (code_newT (.ref l) (E := E) (Q1 := fun obj t => obj = .ref s.heap.objs.size ∧ t = { s with heap := s.heap.push { cls := .type "set", dict := none, data := .set #[] 0 (.fresh 0 0 (!w.params.followText "set-order")) } }) ⟨rfl, rfl⟩) fun r t hr => ?_
  match r, hr with
  | .error e, hr => exact hr
  | .ok .next, hr => exact hr.elim
  | .ok .brk, hr => exact hr.elim
  | .ok .cont, hr => exact hr.elim
  | .ok (.ret obj), hr =>
    obtain ⟨rfl, rfl⟩ := hr
    generalize hz : s.heap.push { cls := .type "set", dict := none, data := .set #[] 0 (.fresh 0 0 (!w.params.followText "set-order")) } = hS
    have new : TxR P w hS s.heap.objs.size [] := by rw [← hz]; exact fresh_T
    have keep : ∀ b o, s.heap.get? b = some o → hS.get? b = some o := fun b o e => by rw [← hz]; exact Heap.get?_push_of_some _ e
    have size : hS.objs.size = s.heap.objs.size + 1 := by rw [← hz, Heap.size_push]
    have hT : Shared.TypeIs { s with heap := hS } (.ref s.heap.objs.size) "set" := new.setOf.typeIs
    have hli := PySem.F.called_set.init.lookup
    have hbi := PySem.F.called_set.init.bind (.ref s.heap.objs.size)
    repeat (any_goals (first | assumption | wp_step))
    refine codeAny_mono (codeAny_call_builtin (R := wants (fun r s2 => r = .none ∧ ∃ h' tk, s2 = { s with heap := h', toks := tk } ∧ TxR P w h' s.heap.objs.size (allL ts) ∧ (∀ b o, s.heap.get? b = some o → h'.get? b = some o)) E)
      PySem.F.called_set.init.plain PySem.F.entry_set_init (check_set_init_1 hT ?_)) fun r2 s2 hr2 => ?_
    · obtain ⟨ol, hol, hcl, nl, hdl⟩ := id hl
      obtain ⟨ocls, odict, odata, oslots⟩ := ol
      simp only at hcl hdl
      subst hcl
      subst hdl
      have hol2 : hS.get? l = some { cls := .type "tuple", dict := odict, data := .seq items nl, slots := oslots } := keep _ _ hol
      have hsls := PySem.F.sub_tuple_set
      have hslf := PySem.F.sub_tuple_frozenset
      have hne : (Value.type "tuple" == Value.type "dict") = false := by decide
      have hl2 : hS.IsTuple l items := ⟨_, hol2, rfl, nl, rfl⟩
      obtain ⟨D0, e0, F0, _⟩ := id new
      have hS0 : hS.get? s.heap.objs.size = some { cls := .type "set", dict := none, data := .set #[] 0 (.fresh 0 0 (!w.params.followText "set-order")) } := by rw [← hz]; exact Heap.get?_push_size _ rfl
      unfold Builtin.«set.__init__» noKeywords Builtin.Frozenset.updateFrom
      generalize hPI : pyIter = PI
      wp_walk
      subst hPI
      refine wpAny_pyIter_tuple hl2 (wpAny_bind (wpAny_runValue ?_))
      have low : l < s.heap.objs.size := Heap.lt_size hol
      have nI : l ≠ hS.objs.size := by rw [size]; exact Nat.ne_of_lt (Nat.lt_succ_of_lt low)
      have nf : s.heap.objs.size ∉ [hS.objs.size, l] := by
        rw [size]
        simp only [List.mem_cons, List.not_mem_nil, or_false, not_or]
        exact ⟨Nat.ne_of_lt (Nat.lt_succ_self _), Nat.ne_of_gt low⟩
      have lt : items.size = ts.length := by rw [← Array.length_toList]; exact hi.length
      have walk := (Walks.tuple (prog := P) (w := w) (A := A.in1.in1.in1) (by simp [hh]) hS.objs.size l nI items).toS
      rw [lt] at walk
      refine loopT walk s.heap.objs.size nf (fun i v hv => ?_) hb (ts.length - 0) 0 _ rfl (Nat.zero_le _) ⟨⟨_, Heap.get?_push_size _ rfl, rfl, rfl⟩, hl2.push _⟩ (new.at fun o e => Heap.get?_push_of_some _ e) fun s3 hm R3 => ?_
      · have hv' : items.toList[i]? = some v := by rw [Array.getElem?_toList]; exact hv
        exact strs_get hi hv'
      · obtain ⟨h3, g3, d3, tk3, os3⟩ := s3
        have eg : g3 = s.gens := hm.gens
        have ed : d3 = s.drawn := hm.drawn
        have eo : os3 = s.os := hm.os
        subst eg
        subst ed
        subst eo
        show wpAny _ _ _ _ _ _
        refine wpAny_pure ?_
        show wpAny _ _ (ret Value.none) _ _ _
        refine wpAny_pure ⟨rfl, h3, tk3, rfl, R3, fun b o e => ?_⟩
        have lb : b < s.heap.objs.size := Heap.lt_size e
        refine hm.heap b o ?_ (Heap.get?_push_of_some _ (keep b o e))
        simp only [List.mem_cons, List.not_mem_nil, or_false, not_or]
        rw [size]
        exact ⟨Nat.ne_of_lt lb, Nat.ne_of_lt (Nat.lt_succ_of_lt lb)⟩
    · match r2, hr2 with
      | .error e, hr2 => exact hr2
      | .ok .next, hr2 => exact hr2.elim
      | .ok .brk, hr2 => exact hr2.elim
      | .ok .cont, hr2 => exact hr2.elim
      | .ok (.ret r), hr2 =>
        obtain ⟨rfl, h', tk, rfl, R3, k3⟩ := hr2
        repeat (any_goals (first | assumption | wp_step))
        exact h _ _ R3 k3
end
section
variable {X : Cx}
def rSetOfT (K : PySem.W.Frag) (P : Program) (w : World) : List V → Hp → VK → Prop := fun xs H Q => ∃ (a : Addr) (ts : List Str), xs = [.ref a] ∧ SqT K H a (ts.map V.str) ∧ ts.length + 1 < scanBound ∧ ∀ p, H p = none → Q (.ref p) (upd H p (SetT P w p (allL ts)))
theorem cr_setOfT (hc : X.calm = true) : CallR X (.type "set") (rSetOfT X.K X.prog X.w) := by
  intro pins s σ H xs us Q I r h
  obtain ⟨a, ts, rfl, hs, hb, q⟩ := h
  obtain ⟨u, rfl, ru⟩ := vals1 r
  cases ru
  obtain ⟨its, rv, hl, _⟩ := I.tuple hs
  refine set_of_tup (I.ok.hd hc) hl (by simpa using rv.strs) hb fun h' tk R k => ?_
  exact ⟨.ref _, upd H s.heap.objs.size (SetT X.prog X.w s.heap.objs.size (allL ts)), I.laid (t' := tk) k (Nat.le_refl _) (setT_new R), rfl, q _ (I.hok.fresh (Nat.le_refl _))⟩
end
end L2.Fu
/-! ## xs.extend(a tuple) -/
namespace L2.Fu
open PySem PySem.Spec PyProof.Rows
theorem meets_extT (l : Addr) (items : Array Value) (n : Nat) (b : Addr) (dd : Option Addr) (items2 : Array Value) (n2 : Nat) (sl : Array (Option Value)) (c0 : ¬(!items.isEmpty && Builtin.List.listTooLong (items.size + items2.size)) = true) (c1 : items.size ≤ sizeLine) (c2 : items.size + items2.size ≤ sizeLine + 1) :
    Meets (Builtin.«list.extend» ⟨[.ref l, .ref b], []⟩) (fun _ R s => s.heap.get? l = some { cls := .type "list", dict := none, data := .seq items n, slots := #[] } ∧ s.heap.get? b = some ⟨.type "tuple", dd, .seq items2 n2, sl⟩ ∧
      R (.ok (.ret Value.none)) { s with heap := s.heap.update l (Obj.mapSeq fun x => x ++ items2), toks := s.toks }) :=
  .of_wp fun prog w A R s h => by
    obtain ⟨hp, g, d, tk, os⟩ := s
    obtain ⟨hl, hb, h⟩ := h
    have f2 := sub_tuple_tuple
    have f3 := sub_list_list
    have f4 := sub_tuple_list
    have f5 := sub_list_tuple
    have big : (items ++ items2).size ≤ sizeLine + 1 := by rw [Array.size_append]; exact c2
    wp_walk using (wpAny_updateSeq hl rfl (hz := c1) (_hz' := big)), wpAny_loadPart' hl, wpAny_loadPart' hb
    exact ⟨_, rfl, h⟩
def rExtT (K : PySem.W.Frag) : V → List V → Hp → VK → Prop := fun x vs H Q => ∃ (l b : Addr) (xs zs : List V), x = .ref l ∧ vs = [.ref b] ∧ H l = some (.lst xs) ∧ SqT K H b zs ∧ xs.length + zs.length ≤ sizeLine ∧ Q .non (upd H l (.lst (xs ++ zs)))
theorem mt_extT {X : Cx} : MtM X "list.extend" (rExtT X.K) := by
  intro pins s σ H x vs v us Q I rx rv h
  obtain ⟨l, b, xs, zs, rfl, rfl, hH, hB, hz, q⟩ := h
  cases rx
  obtain ⟨u, rfl, ru⟩ := vals1 rv
  cases ru
  obtain ⟨z, its, n, r, el, e⟩ := I.lstM hH
  obtain ⟨its2, r2, ⟨o, e2, oc, n2, od⟩, z2⟩ := I.tuple hB
  obtain ⟨c, dd, dt, sl⟩ := o
  dsimp only at oc od
  subst oc od
  have l2 := r2.length
  have few : its.toArray.size + its2.toArray.size ≤ sizeLine := by rw [List.size_toArray, List.size_toArray]; omega
  have nl : ¬ (!its.toArray.isEmpty && Builtin.List.listTooLong (its.toArray.size + its2.toArray.size)) = true := by
    rw [notLongL few, Bool.and_false]
    exact Bool.false_ne_true
  refine call_meets F.slot_list_extend ⟨_, e, rfl⟩ F.entry_list_extend (F.args_list_extend_2 _ _) (meets_extT l its.toArray n b dd its2.toArray n2 sl nl (by rw [List.size_toArray]; omega) (by omega)) ⟨e, e2, ?_⟩
  refine ⟨.non, _, I.lset (its' := its ++ its2) hH e (by simp) (r.append r2) ?_, rfl, q⟩
  rw [List.length_append]
  exact hz
end L2.Fu

set_option Elab.async false
set_option linter.all false
set_option maxRecDepth 100000
set_option maxHeartbeats 4000000
/-! ## Pure states: what a def's names hold, without addresses -/
namespace L2.Pu
open PySem PySem.Spec PyProof.Rows
/-- either, by a truth value -/
def yn (b : Bool) (t u : Prop) : Prop := match b with
  | true => t
  | false => u
def keyD : Key → PyData
  | .inl i => .int i
  | .inr x => .str x
/-- the hash of a tuple of texts -/
def tHash (w : World) (r : List Str) : Int := reduceHash (Builtin.Tuple.tupleHashOf ((r.map (Sum.inr : Str → Key)).map (keyH w)))
/-- o is the object of a dict whose keys are tuples of texts: each key, its tuple, its value -/
structure DT (w : World) (a : Addr) (o : Obj) (zs : List (List Str × Addr × V)) : Prop where
  sys : (a == sysModules) = false
  few : zs.length ≤ sizeLine
  ex : o.ExactDict
  ents : ∃ (es : Array DictEntry) (ep : Nat) (xs : List (List Str × Addr × Value)), o.data = .dict es ep ∧ Paired (fun (z : List Str × Addr × V) (x : List Str × Addr × Value) => x.1 = z.1 ∧ x.2.1 = z.2.1 ∧ RelV z.2.2 x.2.2) zs xs ∧ es.toList = xs.map fun x => (⟨tHash w x.1, .ref x.2.1, x.2.2⟩ : DictEntry)
  nd : (zs.map (·.1)).Nodup
def KeyAt (C : Hp) (z : List Str × Addr × V) : Prop := ∃ ob : Obj, C z.2.1 = some (.frz ob (.tup (z.1.map V.str))) ∧ ob.dict = none
mutual
/-- v is the data d, of which every list, tuple and dict stands in C (dicts locked for good) -/
inductive Da (w : World) (C : Hp) : V → PyData → Prop
  | non : Da w C .non .none
  | bl (b : Bool) : Da w C (.bl b) (.bool b)
  | int (i : Int) : Da w C (.int i) (.int i)
  | str (x : Str) : Da w C (.str x) (.str x)
  | lst {a : Addr} {xs : List V} {ds : List PyData} : C a = some (.lst xs) → True → DaAll w C xs ds → Da w C (.ref a) (.list ds)
  | tup {a : Addr} {o : Obj} {xs : List V} {ds : List PyData} : C a = some (.frz o (.tup xs)) → o.dict = none → DaAll w C xs ds → Da w C (.ref a) (.tuple ds)
  | dic {a : Addr} {o : Obj} {kvs : List (Key × V)} {es : List (Key × PyData)} : C a = some (.frz o (.dK kvs)) → kvs.map (·.1) = es.map (·.1) → DaAll w C (kvs.map (·.2)) (es.map (·.2)) → Da w C (.ref a) (.dict (es.map fun e => (keyD e.1, e.2)))
  | dicT {a : Addr} {o : Obj} {u : HO} {zs : List (List Str × Addr × V)} {rds : List (List Str × PyData)} : C a = some (.frz o u) → DT w a o zs → (∀ z ∈ zs, KeyAt C z) → zs.map (·.1) = rds.map (·.1) → rds ≠ [] → DaAll w C (zs.map (·.2.2)) (rds.map (·.2)) → Da w C (.ref a) (.dict (rds.map fun e => (.tuple (e.1.map PyData.str), e.2)))
inductive DaAll (w : World) (C : Hp) : List V → List PyData → Prop
  | nil : DaAll w C [] []
  | cons {v : V} {vs : List V} {d : PyData} {ds : List PyData} : Da w C v d → DaAll w C vs ds → DaAll w C (v :: vs) (d :: ds)
end
theorem Da.mono {C C' : Hp} (s : Same C C') {v : V} {d : PyData} (h : Da w C v d) : Da w C' v d :=
  Da.rec (motive_1 := fun v d _ => Da w C' v d) (motive_2 := fun vs ds _ => DaAll w C' vs ds) .non .bl .int .str (fun e n _ q => .lst (s _ _ e) n q) (fun e n _ q => .tup (s _ _ e) n q) (fun e k _ q => .dic (s _ _ e) k q) (fun e t ks k ne _ q => .dicT (s _ _ e) t (fun z hz => let ⟨ob, h1, h2⟩ := ks z hz; ⟨ob, s _ _ h1, h2⟩) k ne q) .nil (fun _ _ a b => .cons a b) h
theorem DaAll.mono {C C' : Hp} (s : Same C C') {vs : List V} {ds : List PyData} (h : DaAll w C vs ds) : DaAll w C' vs ds := by
  induction h using DaAll.rec (motive_1 := fun v d _ => True) with
  | nil => exact .nil
  | cons a _ _ b => exact .cons (a.mono s) b
  | _ => trivial
theorem DaAll.length {C : Hp} : ∀ {vs : List V} {ds : List PyData}, DaAll w C vs ds → vs.length = ds.length
  | _, _, .nil => rfl
  | _, _, .cons _ t => by rw [List.length_cons, List.length_cons, DaAll.length t]
theorem DaAll.get {H : Hp} : ∀ {vs : List V} {ds : List PyData} {i : Nat} {v : V}, DaAll w H vs ds → vs[i]? = some v → ∃ d, ds[i]? = some d ∧ Da w H v d
  | _, _, _, _, .nil, e => by simp at e
  | _, _, 0, _, .cons a t, e => by simp at e; subst e; exact ⟨_, rfl, a⟩
  | _, _, i + 1, v, .cons a t, e => by
    obtain ⟨f, h1, h2⟩ := DaAll.get (i := i) (v := v) t (by simpa using e)
    exact ⟨f, by simpa using h1, h2⟩
theorem DaAll.put {H : Hp} : ∀ {vs : List V} {ds : List PyData} {i : Nat} {d : PyData}, DaAll w H vs ds → ds[i]? = some d → ∃ v, vs[i]? = some v ∧ Da w H v d
  | _, _, _, _, .nil, e => by simp at e
  | _, _, 0, _, .cons a t, e => by simp at e; subst e; exact ⟨_, rfl, a⟩
  | _, _, i + 1, d, .cons a t, e => by
    obtain ⟨f, h1, h2⟩ := DaAll.put (i := i) (d := d) t (by simpa using e)
    exact ⟨f, by simpa using h1, h2⟩
theorem DaAll.append {H : Hp} : ∀ {vs us : List V} {ds es : List PyData}, DaAll w H vs ds → DaAll w H us es → DaAll w H (vs ++ us) (ds ++ es)
  | _, _, _, _, .nil, s => s
  | _, _, _, _, .cons a t, s => .cons a (DaAll.append t s)
theorem DaAll.snoc {H : Hp} {vs : List V} {ds : List PyData} {v : V} {d : PyData} (a : DaAll w H vs ds) (b : Da w H v d) : DaAll w H (vs ++ [v]) (ds ++ [d]) := a.append (.cons b .nil)
theorem DaAll.take {H : Hp} : ∀ {vs : List V} {ds : List PyData} (n : Nat), DaAll w H vs ds → DaAll w H (vs.take n) (ds.take n)
  | _, _, 0, _ => by rw [List.take_zero, List.take_zero]; exact .nil
  | _, _, _ + 1, .nil => .nil
  | _, _, n + 1, .cons a t => .cons a (DaAll.take n t)
theorem DaAll.drop {H : Hp} : ∀ {vs : List V} {ds : List PyData} (n : Nat), DaAll w H vs ds → DaAll w H (vs.drop n) (ds.drop n)
  | _, _, 0, h => h
  | _, _, _ + 1, .nil => .nil
  | _, _, n + 1, .cons _ t => DaAll.drop n t
theorem DaAll.reverse {H : Hp} : ∀ {vs : List V} {ds : List PyData}, DaAll w H vs ds → DaAll w H vs.reverse ds.reverse
  | _, _, .nil => .nil
  | _, _, .cons a t => by rw [List.reverse_cons, List.reverse_cons]; exact (DaAll.reverse t).snoc a
theorem DaAll.set {H : Hp} : ∀ {vs : List V} {ds : List PyData} {v : V} {d : PyData} (n : Nat), DaAll w H vs ds → Da w H v d → DaAll w H (vs.set n v) (ds.set n d)
  | _, _, _, _, _, .nil, _ => .nil
  | _, _, _, _, 0, .cons _ t, b => .cons b t
  | _, _, _, _, n + 1, .cons a t, b => .cons a (DaAll.set n t b)

/-- a thing that changes: what it holds -/
inductive Own where
  | lst (ds : List PyData)
  | dic (es : List (Key × PyData))
  | set (xs : List Str)
  | hand (b : Nat)
/-- what a name holds: nothing that is known, data, a thing that changes (r: it came as an argument), the script -/
inductive Slot where
  | un
  | val (d : PyData)
  | own (r : Bool) (o : Own)
  | scr (ns : List Int)
  | exc (c : Addr) (d : PyData)
  | fnc (f c : Addr) (q : Str) (σ : List (Option V)) (vs : List (Option PyData))
abbrev Ro := List Slot
/-- the program, the world, the written part -/
structure PK where
  P : Program
  w : World
  K : PySem.W.Frag
  tb : List (Addr × Str)
  base : Heap
/-- tables of code objects that are known, with the name of their lambdas -/
abbrev Tb := List (Addr × Str)
abbrev _root_.L2.Cx.pk (X : Cx) (τ : Tb) : PK := ⟨X.prog, X.w, X.K, τ, X.base⟩
def OwnAt (T : PK) (C H : Hp) (p : Addr) : Own → Prop
  | .lst ds => ∃ vs, H p = some (.lst vs) ∧ DaAll T.w C vs ds
  | .dic es => ∃ kvs : List (Key × V), H p = some (.dK kvs) ∧ kvs.map (·.1) = es.map (·.1) ∧ DaAll T.w C (kvs.map (·.2)) (es.map (·.2))
  | .set xs => H p = some (Fu.SetT T.P T.w p xs)
  | .hand b => ∃ g a c : Int, H p = some (.lst [.int g, .int a, .int c]) ∧ 0 ≤ a ∧ a < 2147483647 ∧ 0 ≤ c ∧ c + (b : Int) ≤ 900000000
theorem OwnAt.mono {T : PK} {C C' H H' : Hp} {p : Addr} {o : Own} (h : OwnAt T C H p o) (s : Same C C') (e : H' p = H p) : OwnAt T C' H' p o := by
  cases o with
  | lst ds => obtain ⟨vs, a, b⟩ := h; exact ⟨vs, e.trans a, b.mono s⟩
  | dic es => obtain ⟨vs, a, k, b⟩ := h; exact ⟨vs, e.trans a, k, b.mono s⟩
  | set xs => exact e.trans h
  | hand b => obtain ⟨g, a, c, a1, r⟩ := h; exact ⟨g, a, c, e.trans a1, r⟩
theorem OwnAt.ex {T : PK} {C H : Hp} {p : Addr} {o : Own} (h : OwnAt T C H p o) : ∃ u, H p = some u := by
  cases o with
  | lst ds => obtain ⟨vs, a, b⟩ := h; exact ⟨_, a⟩
  | dic es => obtain ⟨vs, a, k, b⟩ := h; exact ⟨_, a⟩
  | set xs => exact ⟨_, h⟩
  | hand b => obtain ⟨g, a, c, a1, r⟩ := h; exact ⟨_, a1⟩
theorem set_nocode {P : Program} {w : World} {p : Addr} {xs : List Str} {q : Str} : Fu.SetT P w p xs ≠ LamX.CodeO p q := fun e => by
  have e1 := HO.ext.inj e
  let o : Obj := { cls := .none, data := .fields #[.none, .str q 0] }
  let h : Heap := (⟨Array.replicate p o, {}⟩ : Heap).push o
  have hg : h.get? p = some o := by
    have := Heap.get?_push_size (⟨Array.replicate p o, {}⟩ : Heap) (o := o) rfl
    simpa [Array.size_replicate] using this
  have : Fu.TxR P w h p xs := by
    have z := congrFun e1 h
    rw [z]
    exact ⟨o, _, 0, hg, rfl, rfl⟩
  obtain ⟨D, hd, _⟩ := this
  rw [hg] at hd
  have := congrArg Obj.data (Option.some.inj hd)
  cases this
theorem OwnAt.notab {T : PK} {C H : Hp} {p : Addr} {o : Own} (h : OwnAt T C H p o) : (∀ ps, H p ≠ some (.tbl ps)) ∧ ∀ q, H p ≠ some (LamX.CodeO p q) := by
  have one : ∀ {u : HO}, H p = some u → (∀ ps, u ≠ .tbl ps) → (∀ q, u ≠ LamX.CodeO p q) → (∀ ps, H p ≠ some (.tbl ps)) ∧ ∀ q, H p ≠ some (LamX.CodeO p q) := fun {u} e a b =>
    ⟨fun ps z => a ps (Option.some.inj (e.symm.trans z)), fun q z => b q (Option.some.inj (e.symm.trans z))⟩
  cases o with
  | lst ds => obtain ⟨vs, a, b⟩ := h; exact one a (fun _ z => nomatch z) fun _ z => nomatch z
  | dic es => obtain ⟨vs, a, k, b⟩ := h; exact one a (fun _ z => nomatch z) fun _ z => nomatch z
  | set xs => exact one h (fun _ z => nomatch z) fun _ => set_nocode
  | hand b => obtain ⟨g, a, c, a1, r⟩ := h; exact one a1 (fun _ z => nomatch z) fun _ z => nomatch z
/-- at a stands an exception of the class at c, its dict at dx -/
def Xo (c dx a : Addr) : HO := .ext fun h => ∃ (oe : Obj) (vs : Array Value), h.get? a = some oe ∧ Zc (.ref c) (some dx) oe ∧ oe.data = .fields vs
/-- a frame: the data and the heap at the start, the things that came as arguments, by slot -/
structure Fm where
  C0 : Hp
  H0 : Hp
  refs : List (Nat × Addr)
def SlotAt (T : PK) (F : Fm) (C H : Hp) (i : Nat) (v : Option (Option V)) : Slot → Prop
  | .un => True
  | .val d => ∃ x, v = some (some x) ∧ Da T.w C x d
  | .own r o => ∃ p, v = some (some (.ref p)) ∧ C p = none ∧ OwnAt T C H p o ∧ (if r = true then (i, p) ∈ F.refs else F.H0 p = none)
  | .scr ns => ∃ a, v = some (some (.ref a)) ∧ SqL T.K C a (ns.map V.int)
  | .exc c d => ∃ a dx x, v = some (some (.ref a)) ∧ C a = some (Xo c dx a) ∧ C dx = some (.xd [("value", x)]) ∧ Da T.w C x d
  | .fnc f c q σc vs => v = some (some (.ref f)) ∧ C c = some (LamX.CodeO c q) ∧ σc.length = vs.length ∧ ∀ (i : Nat) (d : PyData), vs[i]? = some (some d) → ∃ x, σc[i]? = some (some x) ∧ Da T.w C x d
/-- o is no table -/
def NoTb (o : HO) : Prop := ∀ ps, o ≠ .tbl ps
/-- (kept for the shape of Rep) -/
def SysOk (_T : PK) (_C : Hp) : Prop := True
theorem SysOk.mono {T : PK} {C C' : Hp} (_h : SysOk T C) (_s : Same C C') : SysOk T C' := trivial
structure Rep (T : PK) (F : Fm) (ρ : Ro) (C : Hp) (σ : St) (H : Hp) : Prop where
  c0 : Same F.C0 C
  sub : Same C H
  keep : ∀ b o, F.H0 b = some o → NoTb o → (∀ q ∈ F.refs, q.2 ≠ b) → H b = some o
  tbl : ∀ b ps, F.H0 b = some (.tbl ps) → ∃ q, (b, q) ∈ T.tb
  htb : ∀ b ps, H b = some (.tbl ps) → ∃ q, (b, q) ∈ T.tb
  ctab : ∀ b o, C b = some o → NoTb o
  tabs : LamX.Tabs T.tb H
  new : ∀ b o, C b = some o → F.C0 b = none → F.H0 b = none ∨ ∃ xs, o = .tup xs
  refd : ∀ q ∈ F.refs, ∃ o, H q.2 = some o
  sys : SysOk T C
  len : ρ.length = σ.length
  slot : ∀ i s, ρ[i]? = some s → SlotAt T F C H i σ[i]? s
  apart : ∀ (i j : Nat) (p : Addr) (r r' : Bool) (o o' : Own), i ≠ j → ρ[i]? = some (.own r o) → ρ[j]? = some (.own r' o') → σ[i]? = some (some (.ref p)) → σ[j]? = some (some (.ref p)) → False
theorem same_refl (H : Hp) : Same H H := fun _ _ k => k
theorem same_trans {A B C : Hp} (a : Same A B) (b : Same B C) : Same A C := fun x o k => b x o (a x o k)
theorem same_new {H : Hp} {q : Addr} {o : HO} (f : H q = none) : Same H (upd H q o) := fun b u k => by
  rw [upd_ne (ne_of_none k f)]
  exact k
theorem same_upd {C H : Hp} {q : Addr} {o : HO} (s : Same C H) : Same (upd C q o) (upd H q o) := fun b u k => by
  by_cases hb : b = q
  · subst hb; rw [upd_same] at k ⊢; exact k
  · rw [upd_ne hb] at k ⊢; exact s b u k
theorem same_off {C H : Hp} {q : Addr} {o : HO} (s : Same C H) (f : C q = none) : Same C (upd H q o) := fun b u k => by
  rw [upd_ne (ne_of_none k f)]; exact s b u k
theorem same_in {C H : Hp} {q : Addr} {o : HO} (s : Same C H) (e : H q = some o) : Same (upd C q o) H := fun b u k => by
  by_cases hb : b = q
  · subst hb; rw [upd_same] at k; rw [e]; exact k
  · rw [upd_ne hb] at k; exact s b u k
theorem sub_none {C H : Hp} {p : Addr} (s : Same C H) (h : H p = none) : C p = none := by
  cases q : C p with
  | none => rfl
  | some o => rw [s _ _ q] at h; cases h
theorem tabs_new {τ : Tb} {H : Hp} {p : Addr} {o : HO} (t : LamX.Tabs τ H) (h : H p = none) : LamX.Tabs τ (upd H p o) := t.ext fun b u k => same_new h b u k
theorem tabs_upd {τ : Tb} {H : Hp} {p : Addr} {u : HO} (t : LamX.Tabs τ H) (n : (∀ ps, H p ≠ some (.tbl ps)) ∧ ∀ q, H p ≠ some (LamX.CodeO p q)) : LamX.Tabs τ (upd H p u) := fun x hx => by
  obtain ⟨ps, a, b, c⟩ := t x hx
  refine ⟨ps, by rw [upd_ne (fun e => n.1 ps (by rw [← e]; exact a))]; exact a, b, fun pos cv hc => ?_⟩
  obtain ⟨d, e1, e2⟩ := c pos cv hc
  refine ⟨d, e1, ?_⟩
  have ne : d ≠ p := by
    rintro rfl
    exact n.2 _ e2
  rw [upd_ne ne]; exact e2
section
variable {T : PK} {F : Fm} {ρ : Ro} {C : Hp} {σ : St} {H : Hp} {i : Nat} {p : Addr}
theorem Rep.fresh (R : Rep T F ρ C σ H) (h : H p = none) : F.H0 p = none := by
  cases q : F.H0 p with
  | none => rfl
  | some o =>
    by_cases ht : ∃ ps, o = .tbl ps
    · obtain ⟨ps, rfl⟩ := ht
      obtain ⟨q', m⟩ := R.tbl p ps q
      obtain ⟨ps', e, _⟩ := R.tabs _ m
      rw [h] at e; cases e
    have ht : NoTb o := fun ps e => ht ⟨ps, e⟩
    by_cases hr : ∀ q ∈ F.refs, q.2 ≠ p
    · rw [R.keep p o q ht hr] at h; cases h
    · have : ∃ q ∈ F.refs, q.2 = p := by
        refine Classical.byContradiction fun hn => hr fun q hq e => hn ⟨q, hq, e⟩
      obtain ⟨q, hq, e⟩ := this
      obtain ⟨o, ho⟩ := R.refd q hq
      rw [e, h] at ho; cases ho
theorem Rep.nsys (R : Rep T F ρ C σ H) (h : H p = none) : True := trivial
theorem SqL.mono' {K : PySem.W.Frag} {C C' : Hp} {a : Addr} {xs : List V} (s : Same C C') (h : SqL K C a xs) : SqL K C' a xs := by
  rcases h with (h | ⟨o, h⟩) | h
  · exact .inl (.inl (s _ _ h))
  · exact .inl (.inr ⟨o, s _ _ h⟩)
  · exact .inr h
theorem SlotAt.mono {C' H' : Hp} {v : Option (Option V)} {s : Slot} (h : SlotAt T F C H i v s) (sc : Same C C') (e : ∀ p, v = some (some (.ref p)) → C p = none → H p ≠ none → C' p = none ∧ H' p = H p) : SlotAt T F C' H' i v s := by
  cases s with
  | un => trivial
  | val d => obtain ⟨x, a, b⟩ := h; exact ⟨x, a, b.mono sc⟩
  | own r o =>
    obtain ⟨p, a, b, c, d⟩ := h
    obtain ⟨u, hu⟩ := c.ex
    obtain ⟨e1, e2⟩ := e p a b (by rw [hu]; exact Option.some_ne_none u)
    exact ⟨p, a, e1, c.mono sc e2, d⟩
  | scr ns => obtain ⟨a, b, c⟩ := h; exact ⟨a, b, SqL.mono' sc c⟩
  | exc c d => obtain ⟨a, dx, x, e1, e2, e3, e4⟩ := h; exact ⟨a, dx, x, e1, sc _ _ e2, sc _ _ e3, e4.mono sc⟩
  | fnc f c q σc vs => obtain ⟨e1, e2, e3, e4⟩ := h; exact ⟨e1, sc _ _ e2, e3, fun i d e => let ⟨x, a, b⟩ := e4 i d e; ⟨x, a, b.mono sc⟩⟩
/-- a new thing is laid, and is data -/
theorem Rep.lay (R : Rep T F ρ C σ H) {o : HO} (h : H p = none) (no : NoTb o := by intro _ z; cases z) : Rep T F ρ (upd C p o) σ (upd H p o) := by
  have cp := sub_none R.sub h
  refine ⟨same_trans R.c0 (same_new cp), same_upd R.sub, fun b u k nu hr => ?_, R.tbl, fun b ps k => ?_, fun b u k => ?_, tabs_new R.tabs h, fun b u k k0 => ?_, fun q hq => ?_, ?_, R.len, fun i s hs => ?_, R.apart⟩
  · rw [upd_ne (ne_of_none (R.keep b u k nu hr) h)]; exact R.keep b u k nu hr
  · by_cases hb : b = p
    · subst hb; rw [upd_same] at k; cases k; exact absurd rfl (no ps)
    · rw [upd_ne hb] at k; exact R.htb b ps k
  · by_cases hb : b = p
    · subst hb; rw [upd_same] at k; cases k; exact no
    · rw [upd_ne hb] at k; exact R.ctab b u k
  · by_cases hb : b = p
    · subst hb; exact .inl (R.fresh h)
    · rw [upd_ne hb] at k; exact R.new b u k k0
  · obtain ⟨u, hu⟩ := R.refd q hq
    exact ⟨u, by rw [upd_ne (ne_of_none hu h)]; exact hu⟩
  · exact R.sys.mono (same_new cp)
  · refine (R.slot i s hs).mono (same_new cp) fun q _ hq hn => ?_
    have ne : q ≠ p := fun e => by rw [e] at hn; exact hn h
    rw [upd_ne ne, upd_ne ne]; exact ⟨hq, rfl⟩
/-- a new thing is laid beside the data -/
theorem Rep.layH (R : Rep T F ρ C σ H) {o : HO} (h : H p = none) (no : NoTb o := by intro _ z; cases z) : Rep T F ρ C σ (upd H p o) := by
  have cp := sub_none R.sub h
  refine ⟨R.c0, same_off R.sub cp, fun b u k nu hr => ?_, R.tbl, fun b ps k => ?_, R.ctab, tabs_new R.tabs h, R.new, fun q hq => ?_, R.sys, R.len, fun i s hs => ?_, R.apart⟩
  · rw [upd_ne (ne_of_none (R.keep b u k nu hr) h)]; exact R.keep b u k nu hr
  · by_cases hb : b = p
    · subst hb; rw [upd_same] at k; cases k; exact absurd rfl (no ps)
    · rw [upd_ne hb] at k; exact R.htb b ps k
  · obtain ⟨u, hu⟩ := R.refd q hq
    exact ⟨u, by rw [upd_ne (ne_of_none hu h)]; exact hu⟩
  · refine (R.slot i s hs).mono (same_refl _) fun q _ hq hn => ?_
    have ne : q ≠ p := fun e => by rw [e] at hn; exact hn h
    rw [upd_ne ne]; exact ⟨hq, rfl⟩
theorem getElem?_set' {α : Type} {l : List α} {i j : Nat} {x y : α} (h : (l.set i x)[j]? = some y) : (j = i ∧ y = x ∧ i < l.length) ∨ (j ≠ i ∧ l[j]? = some y) := by
  by_cases e : j = i
  · subst e
    by_cases hl : j < l.length
    · rw [List.getElem?_set_self hl] at h; cases h; exact .inl ⟨rfl, rfl, hl⟩
    · rw [List.getElem?_eq_none (by simpa using hl)] at h; cases h
  · rw [List.getElem?_set_ne (Ne.symm e)] at h; exact .inr ⟨e, h⟩
/-- a name is stored -/
theorem Rep.store (R : Rep T F ρ C σ H) {v : V} {s : Slot} (h : i < ρ.length → SlotAt T F C H i (some (some v)) s) (ap : ∀ (j : Nat) (q : Addr) (r r' : Bool) (o o' : Own), j ≠ i → s = .own r o → ρ[j]? = some (.own r' o') → v = .ref q → σ[j]? = some (some (.ref q)) → False) : Rep T F (ρ.set i s) C (σ.set i (some v)) H := by
  refine ⟨R.c0, R.sub, R.keep, R.tbl, R.htb, R.ctab, R.tabs, R.new, R.refd, R.sys, by rw [List.length_set, List.length_set, R.len], fun j t hj => ?_, fun j k q r r' o o' jk hj hk vj vk => ?_⟩
  · rcases getElem?_set' hj with ⟨rfl, rfl, hl⟩ | ⟨ne, hj⟩
    · rw [List.getElem?_set_self (by rw [← R.len]; exact hl)]; exact h hl
    · rw [List.getElem?_set_ne (Ne.symm ne)]; exact R.slot j t hj
  · rcases getElem?_set' hj with ⟨rfl, e1, _⟩ | ⟨n1, hj⟩
    · rcases getElem?_set' hk with ⟨e, _⟩ | ⟨n2, hk⟩
      · exact jk e.symm
      · rcases getElem?_set' vj with ⟨_, e3, _⟩ | ⟨n3, _⟩
        · rw [List.getElem?_set_ne (Ne.symm n2)] at vk
          exact ap k q r r' o o' n2 e1.symm hk (Option.some.inj e3).symm vk
        · exact n3 rfl
    · rename_i hj'
      rcases getElem?_set' hk with ⟨ek, e1, _⟩ | ⟨n2, hk⟩
      · subst ek
        rcases getElem?_set' vk with ⟨_, e3, _⟩ | ⟨n3, _⟩
        · rw [List.getElem?_set_ne (Ne.symm n1)] at vj
          exact ap j q r' r o' o n1 e1.symm hj (Option.some.inj e3).symm vj
        · exact n3 rfl
      · rw [List.getElem?_set_ne (Ne.symm n1)] at vj
        rw [List.getElem?_set_ne (Ne.symm n2)] at vk
        exact R.apart j k q r r' o o' jk hj hk vj vk
theorem Rep.setVal (R : Rep T F ρ C σ H) {v : V} {d : PyData} (h : Da T.w C v d) : Rep T F (ρ.set i (.val d)) C (σ.set i (some v)) H :=
  R.store (fun _ => ⟨v, rfl, h⟩) fun _ _ _ _ _ _ _ e => nomatch e
/-- a name is forgotten -/
theorem Rep.forget (R : Rep T F ρ C σ H) (x : Option V) : Rep T F (ρ.set i .un) C (σ.set i x) H := by
  refine ⟨R.c0, R.sub, R.keep, R.tbl, R.htb, R.ctab, R.tabs, R.new, R.refd, R.sys, by rw [List.length_set, List.length_set, R.len], fun j t hj => ?_, fun j k q r r' o o' jk hj hk vj vk => ?_⟩
  · rcases getElem?_set' hj with ⟨rfl, rfl, hl⟩ | ⟨ne, hj⟩
    · trivial
    · rw [List.getElem?_set_ne (Ne.symm ne)]; exact R.slot j t hj
  · rcases getElem?_set' hj with ⟨_, e1, _⟩ | ⟨n1, hj⟩
    · cases e1
    · rcases getElem?_set' hk with ⟨_, e1, _⟩ | ⟨n2, hk⟩
      · cases e1
      · rw [List.getElem?_set_ne (Ne.symm n1)] at vj
        rw [List.getElem?_set_ne (Ne.symm n2)] at vk
        exact R.apart j k q r r' o o' jk hj hk vj vk
/-- a new thing of one's own goes to a name -/
theorem Rep.setOwn (R : Rep T F ρ C σ H) {o : Own} (cp : C p = none) (fp : F.H0 p = none) (w : OwnAt T C H p o) (ap : ∀ (j : Nat) (r' : Bool) (o' : Own), j ≠ i → ρ[j]? = some (.own r' o') → σ[j]? = some (some (.ref p)) → False) : Rep T F (ρ.set i (.own false o)) C (σ.set i (some (.ref p))) H :=
  R.store (fun _ => ⟨p, rfl, cp, w, fp⟩) fun j q r r' u u' ne _ hj e hv => by cases e; exact ap j r' u' ne hj hv
/-- an own thing is changed -/
theorem Rep.write (R : Rep T F ρ C σ H) {r : Bool} {o o' : Own} {u : HO} (hi : ρ[i]? = some (.own r o)) (hv : σ[i]? = some (some (.ref p))) (w : OwnAt T C (upd H p u) p o') : Rep T F (ρ.set i (.own r o')) C σ (upd H p u) := by
  obtain ⟨p', e, cp, wo, fr⟩ := R.slot i _ hi
  rw [hv] at e; cases e
  have other : ∀ b v, C b = some v → b ≠ p := fun b v k => ne_of_none k cp
  refine ⟨R.c0, same_off R.sub cp, fun b v k nv hr => ?_, R.tbl, fun b ps k => ?_, R.ctab, tabs_upd R.tabs wo.notab, R.new, fun q hq => ?_, R.sys, by rw [List.length_set, R.len], fun j t hj => ?_, fun j k q r1 r2 o1 o2 jk hj hk vj vk => ?_⟩
  · have ne : b ≠ p := by
      rintro rfl
      cases r with
      | true => exact hr (i, b) fr rfl
      | false => rw [show F.H0 b = none from fr] at k; cases k
    rw [upd_ne ne]; exact R.keep b v k nv hr
  · by_cases hb : b = p
    · subst hb; exact absurd k (w.notab.1 ps)
    · rw [upd_ne hb] at k; exact R.htb b ps k
  · by_cases e : q.2 = p
    · exact ⟨u, by rw [e, upd_same]⟩
    · rw [upd_ne e]; exact R.refd q hq
  · rcases getElem?_set' hj with ⟨rfl, rfl, hl⟩ | ⟨ne, hj⟩
    · exact ⟨p, hv, cp, w, fr⟩
    · have h := R.slot j t hj
      cases t with
      | un => trivial
      | val d => exact h
      | scr ns => exact h
      | exc c d => exact h
      | fnc f c q σc vs => exact h
      | own r1 o1 =>
        obtain ⟨p1, a, b, c, d⟩ := h
        have np : p1 ≠ p := fun e => R.apart j i p r1 r o1 o ne hj hi (by rw [← e]; exact a) hv
        exact ⟨p1, a, b, c.mono (same_refl _) (upd_ne np), d⟩
  · have back : ∀ {j : Nat} {r1 o1}, (ρ.set i (.own r o'))[j]? = some (.own r1 o1) → ∃ r2 o2, ρ[j]? = some (.own r2 o2) := fun {j r1 o1} h => by
      rcases getElem?_set' h with ⟨rfl, _⟩ | ⟨_, h⟩
      · exact ⟨_, _, hi⟩
      · exact ⟨_, _, h⟩
    obtain ⟨_, _, a⟩ := back hj
    obtain ⟨_, _, b⟩ := back hk
    exact R.apart j k q _ _ _ _ jk a b vj vk
/-- an own thing becomes data -/
theorem Rep.freeze (R : Rep T F ρ C σ H) {o : Own} {d : PyData} {u : HO} (hi : ρ[i]? = some (.own false o)) (hv : σ[i]? = some (some (.ref p))) (hu : H p = some u) (hd : Da T.w (upd C p u) (.ref p) d) (no : NoTb u := by intro _ z; cases z) : Rep T F (ρ.set i (.val d)) (upd C p u) σ H ∧ C p = none := by
  obtain ⟨p', e, cp, wo, fr⟩ := R.slot i _ hi
  rw [hv] at e; cases e
  have fr : F.H0 p = none := fr
  refine ⟨⟨same_trans R.c0 (same_new cp), same_in R.sub hu, R.keep, R.tbl, R.htb, fun b v k => ?_, R.tabs, fun b v k k0 => ?_, R.refd, ?_, by rw [List.length_set, R.len], fun j t hj => ?_, fun j k q r1 r2 o1 o2 jk hj hk vj vk => ?_⟩, cp⟩
  · by_cases e : b = p
    · subst e; rw [upd_same] at k; cases k; exact no
    · rw [upd_ne e] at k; exact R.ctab b v k
  · by_cases e : b = p
    · subst e; exact .inl fr
    · rw [upd_ne e] at k; exact R.new b v k k0
  · exact R.sys.mono (same_new cp)
  · rcases getElem?_set' hj with ⟨rfl, rfl, hl⟩ | ⟨ne, hj⟩
    · exact ⟨.ref p, hv, hd⟩
    · have h := R.slot j t hj
      cases t with
      | un => trivial
      | val d => obtain ⟨x, a, b⟩ := h; exact ⟨x, a, b.mono (same_new cp)⟩
      | scr ns => obtain ⟨a, b, c⟩ := h; exact ⟨a, b, SqL.mono' (same_new cp) c⟩
      | exc c d => obtain ⟨a, dx, x, e1, e2, e3, e4⟩ := h; exact ⟨a, dx, x, e1, same_new cp _ _ e2, same_new cp _ _ e3, e4.mono (same_new cp)⟩
      | fnc f c q σc vs => obtain ⟨e1, e2, e3, e4⟩ := h; exact ⟨e1, (same_new cp) _ _ e2, e3, fun i d e => let ⟨x, a, b⟩ := e4 i d e; ⟨x, a, b.mono (same_new cp)⟩⟩
      | own r1 o1 =>
        obtain ⟨p1, a, b, c, d'⟩ := h
        have np : p1 ≠ p := fun e => R.apart j i p r1 false o1 o ne hj hi (by rw [← e]; exact a) hv
        exact ⟨p1, a, by rw [upd_ne np]; exact b, c.mono (same_new cp) rfl, d'⟩
  · have back : ∀ {j : Nat} {r1 o1}, (ρ.set i (.val d))[j]? = some (.own r1 o1) → ρ[j]? = some (.own r1 o1) := fun {j r1 o1} h => by
      rcases getElem?_set' h with ⟨_, e, _⟩ | ⟨_, h⟩
      · cases e
      · exact h
    exact R.apart j k q _ _ _ _ jk (back hj) (back hk) vj vk
theorem OwnAt.notup {T : PK} {C H : Hp} {p : Addr} {o : Own} {xs : List V} (h : OwnAt T C H p o) (e : H p = some (.tup xs)) : False := by
  cases o with
  | lst ds => obtain ⟨vs, a, b⟩ := h; rw [e] at a; cases a
  | dic es => obtain ⟨vs, a, k, b⟩ := h; rw [e] at a; cases a
  | set xs => rw [show H p = _ from h] at e; cases e
  | hand b => obtain ⟨g, a, c, a1, r⟩ := h; rw [e] at a1; cases a1
/-- a slot that is data -/
theorem Rep.val (R : Rep T F ρ C σ H) {d : PyData} (h : ρ[i]? = some (.val d)) : ∃ x, σ[i]? = some (some x) ∧ Da T.w C x d := R.slot i _ h
theorem Rep.own (R : Rep T F ρ C σ H) {r : Bool} {o : Own} (h : ρ[i]? = some (.own r o)) : ∃ p, σ[i]? = some (some (.ref p)) ∧ C p = none ∧ OwnAt T C H p o := by
  obtain ⟨p, a, b, c, _⟩ := R.slot i _ h
  exact ⟨p, a, b, c⟩
end

/-! ## Readings over pure states -/
abbrev QE := Ro → (PyData → Ro → Prop) → Prop
abbrev QT := Ro → (Bool → Ro → Prop) → Prop
abbrev QA := Ro → (List PyData → Ro → Prop) → Prop
structure Qn where
  nx : Ro → Prop
  rt : PyData → Ro → Prop
  bk : Ro → Prop := fun _ => False
  ct : Ro → Prop := fun _ => False
abbrev QS := Qn → Ro → Prop
def liftE (T : PK) (q : QE) : TE := fun σ H Q => ∃ F ρ C, Rep T F ρ C σ H ∧ ∃ κ, q ρ κ ∧ ∀ d ρ' v C' H', κ d ρ' → Same C C' → Rep T F ρ' C' σ H' → Da T.w C' v d → Q v H'
def liftT (T : PK) (q : QT) : TT := fun σ H Q => ∃ F ρ C, Rep T F ρ C σ H ∧ ∃ κ, q ρ κ ∧ ∀ b ρ' C' H', κ b ρ' → Same C C' → Rep T F ρ' C' σ H' → Q b H'
def liftA (T : PK) (q : QA) : TA := fun σ H Q => ∃ F ρ C, Rep T F ρ C σ H ∧ ∃ κ, q ρ κ ∧ ∀ ds ρ' vs C' H', κ ds ρ' → Same C C' → Rep T F ρ' C' σ H' → DaAll T.w C' vs ds → Q vs H'
def liftS (T : PK) (q : QS) : TS := fun D σ H => ∃ F ρ C, Rep T F ρ C σ H ∧ ∃ κ : Qn, q κ ρ ∧
  (∀ ρ' C' σ' H', κ.nx ρ' → Same C C' → Rep T F ρ' C' σ' H' → D.nx σ' H') ∧
  (∀ d ρ' v C' σ' H', κ.rt d ρ' → Same C C' → Rep T F ρ' C' σ' H' → Da T.w C' v d → D.rt v H') ∧
  (∀ ρ' C' σ' H', κ.bk ρ' → Same C C' → Rep T F ρ' C' σ' H' → D.bk σ' H') ∧
  (∀ ρ' C' σ' H', κ.ct ρ' → Same C C' → Rep T F ρ' C' σ' H' → D.ct σ' H')
abbrev PQ (τ : Tb) (X : Cx) (e : Expr) (q : QE) : Prop := PE X e (liftE (X.pk τ) q)
abbrev PQT (τ : Tb) (X : Cx) (e : Expr) (q : QT) : Prop := PT X e (liftT (X.pk τ) q)
abbrev PQA (τ : Tb) (X : Cx) (es : List Expr) (q : QA) : Prop := PA X es (liftA (X.pk τ) q)
abbrev PQS (τ : Tb) (X : Cx) (s : Stmt) (q : QS) : Prop := PS X s (liftS (X.pk τ) q)
abbrev PQSs (τ : Tb) (X : Cx) (s : List Stmt) (q : QS) : Prop := PSs X s (liftS (X.pk τ) q)
/-- a reading may be made stronger -/
theorem pe_imp {X : Cx} {e : Expr} {t : TE} (t' : TE) (p : PE X e t) (h : ∀ σ H Q, t' σ H Q → t σ H Q) : PE X e t' := ⟨fun pins s σ H Q I q => p.run pins s σ H Q I (h σ H Q q)⟩
theorem pt_imp {X : Cx} {e : Expr} {t : TT} (t' : TT) (p : PT X e t) (h : ∀ σ H Q, t' σ H Q → t σ H Q) : PT X e t' := ⟨fun pins s σ H Q I q => p.run pins s σ H Q I (h σ H Q q)⟩
theorem pw_imp {X : Cx} {e : Expr} {t : TT} (t' : TT) (p : PW X e t) (h : ∀ σ H Q, t' σ H Q → t σ H Q) : PW X e t' := ⟨fun wh pins s σ H Q I q => p.run wh pins s σ H Q I (h σ H Q q)⟩
theorem pa_imp {X : Cx} {e : List Expr} {t : TA} (t' : TA) (p : PA X e t) (h : ∀ σ H Q, t' σ H Q → t σ H Q) : PA X e t' := ⟨fun pos pins s σ H Q I q => p.run pos pins s σ H Q I (h σ H Q q)⟩
theorem ps_imp {X : Cx} {e : Stmt} {t : TS} (t' : TS) (p : PS X e t) (h : ∀ D σ H, t' D σ H → t D σ H) : PS X e t' := ⟨fun pins s σ H D I q => p.run pins s σ H D I (h D σ H q)⟩
theorem pss_imp {X : Cx} {e : List Stmt} {t : TS} (t' : TS) (p : PSs X e t) (h : ∀ D σ H, t' D σ H → t D σ H) : PSs X e t' := ⟨fun pins s σ H D I q => p.run pins s σ H D I (h D σ H q)⟩
end L2.Pu

set_option Elab.async false
set_option linter.all false
set_option maxRecDepth 100000
set_option maxHeartbeats 4000000
/-! ## Expressions -/
namespace L2.Pu
open PySem PySem.Spec PyProof.Rows
section
variable {X : Cx} {τ : Tb}
def qC (d : PyData) : QE := fun ρ κ => κ d ρ
theorem c_imp {T : PK} {v : V} {d : PyData} (h : ∀ C, Da T.w C v d) : ∀ σ H Q, liftE T (qC d) σ H Q → tC v σ H Q := by
  rintro σ H Q ⟨F, ρ, C, R, κ, k, q⟩
  exact q _ _ _ _ _ k (same_refl _) R (h C)
theorem qe_int {i j pos} : PQ τ X (.Constant (.int i) j pos) (qC (.int i)) := pe_imp _ pe_int (c_imp fun _ => .int i)
theorem qe_bl {b j pos} : PQ τ X (.Constant (.bool b) j pos) (qC (.bool b)) := pe_imp _ pe_bl (c_imp fun _ => .bl b)
theorem qe_non {j pos} : PQ τ X (.Constant .none j pos) (qC .none) := pe_imp _ pe_non (c_imp fun _ => .non)
theorem qe_str {x j pos} : PQ τ X (.Constant (.str x) j pos) (qC (.str x)) := pe_imp _ pe_str (c_imp fun _ => .str x)
theorem qe_glob {x : Str} {v : V} {d : PyData} {e : Expr} (p : PE X e (tC v)) (h : ∀ C, Da X.w C v d) : PQ τ X e (qC d) := pe_imp _ p (c_imp h)
def qVar (i : Nat) : QE := fun ρ κ => match ρ[i]? with
  | some (.val d) => κ d ρ
  | _ => False
theorem qVar_of {i : Nat} {ρ : Ro} {κ : PyData → Ro → Prop} (h : qVar i ρ κ) : ∃ d, ρ[i]? = some (.val d) ∧ κ d ρ := by
  unfold qVar at h
  split at h
  · exact ⟨_, by assumption, h⟩
  · exact h.elim
theorem qe_var {i : Nat} {x : Str} {pos : Pos} (p : PE X (.Name x pos) (tVar i)) : PQ τ X (.Name x pos) (qVar i) := by
  refine pe_imp _ p ?_
  rintro σ H Q ⟨F, ρ, C, R, κ, k, q⟩
  obtain ⟨d, e, k⟩ := qVar_of k
  obtain ⟨v, hv, hd⟩ := R.val e
  exact ⟨v, hv, q _ _ _ _ _ k (same_refl _) R hd⟩
theorem upd_eq {H : Hp} {p : Addr} {u : HO} (h : H p = some u) : upd H p u = H := by
  funext b
  unfold upd
  by_cases e : b = p
  · rw [if_pos e, e, h]
  · rw [if_neg e]
/-- an own list is handed on as data: it changes no more -/
def qFrz (i : Nat) : QE := fun ρ κ => match ρ[i]? with
  | some (.own false (.lst ds)) => κ (.list ds) (ρ.set i (.val (.list ds)))
  | _ => False
theorem own_nsys {T : PK} {F : Fm} {ρ : Ro} {C : Hp} {σ : St} {H : Hp} {p : Addr} (R : Rep T F ρ C σ H) (h : C p = none) : True := trivial
theorem qe_frz {i : Nat} {x : Str} {pos : Pos} (p : PE X (.Name x pos) (tVar i)) : PQ τ X (.Name x pos) (qFrz i) := by
  refine pe_imp _ p ?_
  rintro σ H Q ⟨F, ρ, C, R, κ, k, q⟩
  unfold qFrz at k
  split at k
  · rename_i ds e
    obtain ⟨a, hv, cp, vs, hp, hd⟩ := R.own e
    have dd : Da X.w (upd C a (.lst vs)) (.ref a) (.list ds) := .lst upd_same (own_nsys R cp) (hd.mono (same_new cp))
    obtain ⟨R', _⟩ := R.freeze e hv hp dd
    exact ⟨_, hv, q _ _ _ _ _ k (same_new cp) R' dd⟩
  · exact k.elim

/-! ### argument lists -/
def qaNil : QA := fun ρ κ => κ [] ρ
def qaCons (q : QE) (r : QA) : QA := fun ρ κ => q ρ fun d ρ1 => r ρ1 fun ds ρ2 => κ (d :: ds) ρ2
/-- .. of n expressions -/
def liftN (T : PK) (n : Nat) (q : QA) : TA := fun σ H Q => ∃ F ρ C, Rep T F ρ C σ H ∧ ∃ κ, q ρ κ ∧ ∀ ds ρ' vs C' H', κ ds ρ' → Same C C' → Rep T F ρ' C' σ H' → DaAll T.w C' vs ds → ds.length = n → Q vs H'
abbrev PQN (τ : Tb) (X : Cx) (es : List Expr) (n : Nat) (q : QA) : Prop := PA X es (liftN (X.pk τ) n q)
theorem qa_nil : PQN τ X [] 0 qaNil := by
  refine pa_imp _ pa_nil ?_
  rintro σ H Q ⟨F, ρ, C, R, κ, k, q⟩
  exact q _ _ _ _ _ k (same_refl _) R .nil rfl
theorem qa_cons {e : Expr} {es : List Expr} {n : Nat} {q : QE} {r : QA} (h : PQ τ X e q) (t : PQN τ X es n r) (hs : starEach (e :: es) X.env = (false, eval e X.env) :: starEach es X.env := by rfl) : PQN τ X (e :: es) (n + 1) (qaCons q r) := by
  refine pa_imp _ (pa_cons h t hs) ?_
  rintro σ H Q ⟨F, ρ, C, R, κ, k, z⟩
  refine ⟨F, ρ, C, R, _, k, fun d ρ1 v C1 H1 k1 s1 R1 d1 => ?_⟩
  refine ⟨F, ρ1, C1, R1, _, k1, fun ds ρ2 vs C2 H2 k2 s2 R2 d2 hl => ?_⟩
  exact z _ _ _ _ _ k2 (same_trans s1 s2) R2 (.cons (d1.mono s2) d2) (by rw [List.length_cons, hl])
def qTup (q : QA) : QE := fun ρ κ => q ρ fun ds ρ1 => κ (.tuple ds) ρ1
def qList (q : QA) : QE := fun ρ κ => q ρ fun ds ρ1 => κ (.list ds) ρ1
/-- a locked tuple is read -/
theorem sqF {K : PySem.W.Frag} {H : Hp} {a : Addr} {o : Obj} {xs : List V} (h : H a = some (.frz o (.tup xs))) : SqT K H a xs := .inl (.inr ⟨o, h⟩)
/-- a new tuple, its object known: no attributes of its own -/
def Fine (o : HO) (xs : List V) : Prop := ∃ ob : Obj, o = .frz ob (.tup xs) ∧ ob.dict = none
theorem tup_new {P : Program} {w : World} {H : Hp} {h : Heap} {xs : List V} {its : List Value} (z : xs.length ≤ sizeLine) (r : Vals xs its) :
    ObjOk P w H (h.push { cls := .type "tuple", data := .seq its.toArray }) h.objs.size (.frz { cls := .type "tuple", data := .seq its.toArray } (.tup xs)) := ⟨Heap.get?_push_size _ rfl, z, its, r, IsTup.new _ _⟩
def tTupF (t : TA) : TE := fun σ H Q => t σ H fun xs H1 => xs.length ≤ sizeLine ∧ ∀ p o, H1 p = none → Fine o xs → Q (.ref p) (upd H1 p o)
theorem pe_tupF {es : List Expr} {t : TA} {x1} {pos : Pos} (h : PA X es t) : PE X (.Tuple es x1 pos) (tTupF t) := by
  refine ⟨fun pins s σ H Q I hq => wpAny_Tuple_spliced (thn (h.run pos pins s σ H _ I hq) fun us s1 g => ?_)⟩
  obtain ⟨xs, H1, I1, r, z, q⟩ := g
  exact ⟨by rw [← r.length]; exact z, .ref s1.heap.objs.size, _, I1.laid (t' := s1.toks) (fun b u e => Heap.get?_push_of_some _ e) (Nat.le_refl _) (tup_new z r), rfl, q _ _ (I1.hok.fresh (Nat.le_refl _)) ⟨_, rfl, rfl⟩⟩
theorem qe_tup {es : List Expr} {n : Nat} {q : QA} {x1} {pos : Pos} (h : PQN τ X es n q) (hn : n ≤ 1000 := by decide) : PQ τ X (.Tuple es x1 pos) (qTup q) := by
  refine pe_imp _ (pe_tupF h) ?_
  rintro σ H Q ⟨F, ρ, C, R, κ, k, z⟩
  refine ⟨F, ρ, C, R, _, k, fun ds ρ1 vs C1 H1 k1 s1 R1 d1 hl => ⟨?_, fun p o np fo => ?_⟩⟩
  · rw [d1.length, hl]; exact Nat.le_trans hn (by rw [sizeLine_eq]; decide)
  · obtain ⟨ob, rfl, hd⟩ := fo
    have cp := sub_none R1.sub np
    exact z _ _ _ _ _ k1 (same_trans s1 (same_new cp)) (R1.lay np) (.tup upd_same hd (d1.mono (same_new cp)))
theorem qe_list {es : List Expr} {n : Nat} {q : QA} {pos : Pos} (h : PQN τ X es n q) (hn : n ≤ 1000 := by decide) : PQ τ X (.List es pos) (qList q) := by
  refine pe_imp _ (pe_lst h) ?_
  rintro σ H Q ⟨F, ρ, C, R, κ, k, z⟩
  refine ⟨F, ρ, C, R, _, k, fun ds ρ1 vs C1 H1 k1 s1 R1 d1 hl => ⟨?_, fun p np => ?_⟩⟩
  · rw [d1.length, hl]; exact Nat.le_trans hn (by rw [sizeLine_eq]; decide)
  · have cp := sub_none R1.sub np
    exact z _ _ _ _ _ k1 (same_trans s1 (same_new cp)) (R1.lay np) (.lst upd_same (R1.nsys np) (d1.mono (same_new cp)))

/-! ### one level of data, or of an own thing -/
/-- v is read as d: its items are data, itself is data or an own thing -/
inductive Bo (w : World) (C H : Hp) : V → PyData → Prop
  | non : Bo w C H .non .none
  | bl (b : Bool) : Bo w C H (.bl b) (.bool b)
  | int (i : Int) : Bo w C H (.int i) (.int i)
  | str (x : Str) : Bo w C H (.str x) (.str x)
  | lst {a : Addr} {xs : List V} {ds : List PyData} : H a = some (.lst xs) → DaAll w C xs ds → Bo w C H (.ref a) (.list ds)
  | tup {a : Addr} {o : Obj} {xs : List V} {ds : List PyData} : C a = some (.frz o (.tup xs)) → o.dict = none → DaAll w C xs ds → Bo w C H (.ref a) (.tuple ds)
  | dic {a : Addr} {kvs : List (Key × V)} {es : List (Key × PyData)} : Rd H a (.dK kvs) → kvs.map (·.1) = es.map (·.1) → DaAll w C (kvs.map (·.2)) (es.map (·.2)) → Bo w C H (.ref a) (.dict (es.map fun e => (keyD e.1, e.2)))
  | dicT {a : Addr} {o : Obj} {u : HO} {zs : List (List Str × Addr × V)} {rds : List (List Str × PyData)} : C a = some (.frz o u) → DT w a o zs → (∀ z ∈ zs, KeyAt C z) → zs.map (·.1) = rds.map (·.1) → rds ≠ [] → DaAll w C (zs.map (·.2.2)) (rds.map (·.2)) → Bo w C H (.ref a) (.dict (rds.map fun e => (.tuple (e.1.map PyData.str), e.2)))
theorem Da.bo {C H : Hp} {v : V} {d : PyData} (s : Same C H) (h : Da w C v d) : Bo w C H v d := by
  cases h with
  | non => exact .non
  | bl b => exact .bl b
  | int i => exact .int i
  | str x => exact .str x
  | lst e _ h => exact .lst (s _ _ e) h
  | tup e n h => exact .tup e n h
  | dic e k h => exact .dic (.inr ⟨_, s _ _ e⟩) k h
  | dicT e t ks k ne h => exact .dicT e t ks k ne h
/-- what an own thing is read as -/
def Own.dat : Own → Option PyData
  | .lst ds => some (.list ds)
  | .dic es => some (.dict (es.map fun e => (keyD e.1, e.2)))
  | _ => none
theorem OwnAt.bo {T : PK} {C H : Hp} {p : Addr} {o : Own} {d : PyData} (h : OwnAt T C H p o) (e : o.dat = some d) : Bo T.w C H (.ref p) d := by
  cases o with
  | lst ds => obtain ⟨vs, a, b⟩ := h; cases e; exact .lst a b
  | dic es => obtain ⟨vs, a, k, b⟩ := h; cases e; exact .dic (.inl a) k b
  | set xs => cases e
  | hand b => cases e
/-- slot i is data or an own thing that is read as d -/
def datAt (ρ : Ro) (i : Nat) : Option PyData := match ρ[i]? with
  | some (.val d) => some d
  | some (.own _ o) => o.dat
  | _ => none
theorem Rep.bo {T : PK} {F : Fm} {ρ : Ro} {C : Hp} {σ : St} {H : Hp} {i : Nat} {d : PyData} (R : Rep T F ρ C σ H) (h : datAt ρ i = some d) : ∃ v, σ[i]? = some (some v) ∧ Bo T.w C H v d := by
  unfold datAt at h
  split at h
  · rename_i d' e
    cases h
    obtain ⟨v, a, b⟩ := R.val e
    exact ⟨v, a, b.bo R.sub⟩
  · rename_i r o e
    obtain ⟨p, a, b, c⟩ := R.own e
    exact ⟨_, a, c.bo h⟩
  · cases h
/-! ### operators: by the kinds of the data -/
/-- what an operator asks of the data, and gives -/
abbrev D2 := PyData → PyData → (PyData → Prop) → Prop
def qOp (r : D2) (a b : QE) : QE := fun ρ κ => a ρ fun x ρ1 => b ρ1 fun y ρ2 => r x y fun z => κ z ρ2
/-- a rule on values that follows from one on data -/
def OkD (τ : Tb) (X : Cx) (r2 : R2) (r : D2) : Prop := ∀ (F : Fm) (ρ : Ro) (C : Hp) (σ : St) (H : Hp) (x y : V) (d e : PyData) (P : PyData → Prop) (Q : VK), Rep (X.pk τ) F ρ C σ H → Bo X.w C H x d → Bo X.w C H y e → r d e P →
  (∀ z v C' H', P z → Same C C' → Rep (X.pk τ) F ρ C' σ H' → Da X.w C' v z → Q v H') → r2 x y H Q
theorem op_imp {r2 : R2} {r : D2} {a b : QE} (ok : OkD τ X r2 r) : ∀ σ H Q, liftE (X.pk τ) (qOp r a b) σ H Q → tOp r2 (liftE (X.pk τ) a) (liftE (X.pk τ) b) σ H Q := by
  rintro σ H Q ⟨F, ρ, C, R, κ, k, z⟩
  refine ⟨F, ρ, C, R, _, k, fun d ρ1 v C1 H1 k1 s1 R1 d1 => ?_⟩
  refine ⟨F, ρ1, C1, R1, _, k1, fun e ρ2 u C2 H2 k2 s2 R2 d2 => ?_⟩
  exact ok F ρ2 C2 σ H2 v u d e _ Q R2 ((d1.mono s2).bo R2.sub) (d2.bo R2.sub) k2 fun w v C' H' kw s' R' d' => z _ _ _ _ _ kw (same_trans s1 (same_trans s2 s')) R' d'
def orR (r s : R2) : R2 := fun x y H Q => r x y H Q ∨ s x y H Q
theorem OpR.or {f : Value → Value → Sem Value} {r s : R2} (a : OpR X f r) (b : OpR X f s) : OpR X f (orR r s) := fun pins sh σ H x y v u Q I rx ry h =>
  h.elim (a pins sh σ H x y v u Q I rx ry) (b pins sh σ H x y v u Q I rx ry)
/-- a rule with one answer that leaves the heap as it is -/
theorem okq {F : Fm} {ρ : Ro} {C : Hp} {σ : St} {H : Hp} {P : PyData → Prop} {Q : VK} (R : Rep (X.pk τ) F ρ C σ H) (z : ∀ z v C' H', P z → Same C C' → Rep (X.pk τ) F ρ C' σ H' → Da X.w C' v z → Q v H') {d : PyData} {v : V} (h : P d) (dv : Da X.w C v d) : Q v H := z d v C H h (same_refl _) R dv
theorem line_le {n : Nat} (h : n ≤ 16000000) : n ≤ sizeLine := Nat.le_trans h (by rw [sizeLine_eq]; decide)
/-- t + u, the new tuple's object known -/
def rCatF (K : PySem.W.Frag) : R2 := fun x y H Q => ∃ a b xs ys, x = .ref a ∧ y = .ref b ∧ SqT K H a xs ∧ SqT K H b ys ∧ xs.length + ys.length ≤ sizeLine ∧
  (xs = [] → Q (.ref b) H) ∧ (xs ≠ [] → ys = [] → Q (.ref a) H) ∧ ∀ p o, H p = none → Fine o (xs ++ ys) → Q (.ref p) (upd H p o)
theorem op_catF : OpR X (binaryOp .Add) (rCatF X.K) := by
  intro pins s σ H x y v u Q I rx ry h
  obtain ⟨a, b, xs, ys, rfl, rfl, ha, hb, hz, q0, q1, q2⟩ := h
  obtain rfl : v = Value.ref a := rx
  obtain rfl : u = Value.ref b := ry
  obtain ⟨us, r1, t1, _⟩ := I.tuple ha
  obtain ⟨ws, r2, t2, _⟩ := I.tuple hb
  by_cases e : xs = []
  · have eu : us = [] := r1.nil_iff.mpr e
    subst eu
    exact cat_tup0 t1 t2 ⟨.ref b, H, I, rfl, q0 e⟩
  · refine HT.cat_tup t1 t2 (fun z => e (r1.nil_iff.mp z)) (fun z => ⟨.ref a, H, I, rfl, q1 e (r2.nil_iff.mp z)⟩) (fun z => ?_) (by rw [← r1.length, ← r2.length]; exact hz)
    have lz : (xs ++ ys).length ≤ sizeLine := by rw [List.length_append]; exact hz
    exact ⟨.ref s.heap.objs.size, _, I.laid (t' := s.toks) (fun b ob q => Heap.get?_push_of_some _ q) (Nat.le_refl _) (tup_new lz (r1.append r2)), rfl, q2 _ _ (I.hok.fresh (Nat.le_refl _)) ⟨_, rfl, rfl⟩⟩
def addD : D2 := fun x y P => match x, y with
  | .int a, .int b => P (.int (a + b))
  | .str a, .str b => a.length + b.length ≤ 16000000 ∧ P (.str (a ++ b))
  | .tuple a, .tuple b => a.length + b.length ≤ 16000000 ∧ P (.tuple (a ++ b))
  | .list a, .list b => a.length + b.length ≤ 16000000 ∧ P (.list (a ++ b))
  | _, _ => False
abbrev rAdd (K : PySem.W.Frag) : R2 := orR (rI0 fun i j => .int (i + j)) (orR (fun x y H Q => ∃ i j, x = .str i ∧ y = .str j ∧ i.length + j.length ≤ sizeLine ∧ Q (.str (i ++ j)) H) (orR (rCatF K) rCat))
theorem op_addD : OpR X (binaryOp .Add) (rAdd X.K) := OpR.or op_add (OpR.or op_add_str (OpR.or op_catF op_cat))
theorem ok_add : OkD τ X (rAdd X.K) addD := by
  intro F ρ C σ H x y d e P Q R dx dy h z
  cases dx with
  | int a =>
    cases dy with
    | int b => exact .inl ⟨a, b, rfl, rfl, okq R z h (.int _)⟩
    | _ => exact h.elim
  | str a =>
    cases dy with
    | str b => exact .inr (.inl ⟨a, b, rfl, rfl, line_le h.1, okq R z h.2 (.str _)⟩)
    | _ => exact h.elim
  | @tup a oa xs ds ea na da =>
    cases dy with
    | @tup b ob ys es eb nb db =>
      obtain ⟨hl, h⟩ := h
      rw [← da.length, ← db.length] at hl
      refine .inr (.inr (.inl ⟨a, b, xs, ys, rfl, rfl, sqF (R.sub _ _ ea), sqF (R.sub _ _ eb), line_le hl, fun e => ?_, fun _ e => ?_, fun p o np fo => ?_⟩))
      · subst e
        cases da
        exact okq R z h (.tup eb nb db)
      · subst e
        cases db
        rw [List.append_nil] at h
        exact okq R z h (.tup ea na da)
      · obtain ⟨ob, rfl, hd⟩ := fo
        have cp := sub_none R.sub np
        exact z _ _ _ _ h (same_new cp) (R.lay np) (.tup upd_same hd ((da.append db).mono (same_new cp)))
    | _ => exact h.elim
  | @lst a xs ds ea da =>
    cases dy with
    | @lst b ys es eb db =>
      obtain ⟨hl, h⟩ := h
      rw [← da.length, ← db.length] at hl
      refine .inr (.inr (.inr ⟨a, b, xs, ys, rfl, rfl, ea, eb, line_le hl, fun p np => ?_⟩))
      have cp := sub_none R.sub np
      exact z _ _ _ _ h (same_new cp) (R.lay np) (.lst upd_same (R.nsys np) ((da.append db).mono (same_new cp)))
    | _ => exact h.elim
  | _ => exact h.elim
theorem qe_add {a b : Expr} {qa qb : QE} {pos : Pos} (ha : PQ τ X a qa) (hb : PQ τ X b qb) : PQ τ X (.BinOp a .Add b pos) (qOp addD qa qb) := pe_imp _ (pe_op op_addD ha hb) (op_imp ok_add)
/-- operators on whole numbers -/
def intD (Cn : Int → Int → Prop) (g : Int → Int → PyData) : D2 := fun x y P => match x, y with
  | .int a, .int b => Cn a b ∧ P (g a b)
  | _, _ => False
theorem ok_int {Cn : Int → Int → Prop} {g : Int → Int → V} {g' : Int → Int → PyData} (h : ∀ a b C, Da X.w C (g a b) (g' a b)) : OkD τ X (rI Cn g) (intD Cn g') := by
  intro F ρ C σ H x y d e P Q R dx dy hh z
  cases dx with
  | int a =>
    cases dy with
    | int b => exact ⟨a, b, rfl, rfl, hh.1, okq R z hh.2 (h a b C)⟩
    | _ => exact hh.elim
  | _ => exact hh.elim
def intD0 (g : Int → Int → PyData) : D2 := fun x y P => match x, y with
  | .int a, .int b => P (g a b)
  | _, _ => False
theorem ok_int0 {g : Int → Int → V} {g' : Int → Int → PyData} (h : ∀ a b C, Da X.w C (g a b) (g' a b)) : OkD τ X (rI0 g) (intD0 g') := by
  intro F ρ C σ H x y d e P Q R dx dy hh z
  cases dx with
  | int a =>
    cases dy with
    | int b => exact ⟨a, b, rfl, rfl, okq R z hh (h a b C)⟩
    | _ => exact hh.elim
  | _ => exact hh.elim
section
variable {a b : Expr} {qa qb : QE} {pos : Pos}
theorem qe_sub (ha : PQ τ X a qa) (hb : PQ τ X b qb) : PQ τ X (.BinOp a .Sub b pos) (qOp (intD0 fun i j => .int (i - j)) qa qb) := pe_imp _ (pe_op op_sub ha hb) (op_imp (ok_int0 fun _ _ _ => .int _))
theorem qe_mul (ha : PQ τ X a qa) (hb : PQ τ X b qb) : PQ τ X (.BinOp a .Mult b pos) (qOp (intD CMul fun i j => .int (i * j)) qa qb) := pe_imp _ (pe_op op_mul ha hb) (op_imp (ok_int fun _ _ _ => .int _))
theorem qe_mod (ha : PQ τ X a qa) (hb : PQ τ X b qb) : PQ τ X (.BinOp a .Mod b pos) (qOp (intD (fun _ j => 0 < j) fun i j => .int (i % j)) qa qb) := pe_imp _ (pe_op op_mod ha hb) (op_imp (ok_int fun _ _ _ => .int _))
theorem qe_fdiv (ha : PQ τ X a qa) (hb : PQ τ X b qb) : PQ τ X (.BinOp a .FloorDiv b pos) (qOp (intD CDiv fun i j => .int (i / j)) qa qb) := pe_imp _ (pe_op op_fdiv ha hb) (op_imp (ok_int fun _ _ _ => .int _))
theorem qe_pow (ha : PQ τ X a qa) (hb : PQ τ X b qb) : PQ τ X (.BinOp a .Pow b pos) (qOp (intD CPow fun i j => .int (i ^ j.toNat)) qa qb) := pe_imp _ (pe_op op_pow ha hb) (op_imp (ok_int fun _ _ _ => .int _))
def qUn (r : PyData → (PyData → Prop) → Prop) (a : QE) : QE := fun ρ κ => a ρ fun x ρ1 => r x fun z => κ z ρ1
def negD : PyData → (PyData → Prop) → Prop := fun x P => match x with
  | .int i => P (.int (-i))
  | _ => False
theorem qe_neg (ha : PQ τ X a qa) : PQ τ X (.UnaryOp .USub a pos) (qUn negD qa) := by
  refine pe_imp _ (pe_un un_neg ha) ?_
  rintro σ H Q ⟨F, ρ, C, R, κ, k, z⟩
  refine ⟨F, ρ, C, R, _, k, fun d ρ1 v C1 H1 k1 s1 R1 d1 => ?_⟩
  cases d1 with
  | int i => exact ⟨i, rfl, z _ _ _ _ _ k1 s1 R1 (.int _)⟩
  | _ => exact k1.elim
end

/-! ### comparisons -/
/-- data that == and in can walk: no dicts, not too deep -/
abbrev Shp (d : PyData) : Prop := SeqAt.shaped d = true
mutual
theorem Da.dp {K : PySem.W.Frag} {C H : Hp} (s : Same C H) : ∀ {v : V} {d : PyData}, Da w C v d → d.canLay0 = true → Dp K H v d
  | _, _, .non, _ => .non
  | _, _, .bl b, _ => .bl b
  | _, _, .int i, _ => .int i
  | _, _, .str x, _ => .str x
  | _, _, .lst e n h, c => .lst (SqL.of (s _ _ e)) (DaAll.dp s h (by simpa [PyData.canLay0] using c))
  | _, _, .tup e _ h, c => .tup (sqF (s _ _ e)) (DaAll.dp s h (by simpa [PyData.canLay0] using c))
  | _, _, .dic e k h, c => by simp [PyData.canLay0] at c
  | _, _, .dicT e t ks k ne h, c => by simp [PyData.canLay0] at c
theorem DaAll.dp {K : PySem.W.Frag} {C H : Hp} (s : Same C H) : ∀ {vs : List V} {ds : List PyData}, DaAll w C vs ds → PyData.canLayAll0 ds = true → DpAll K H vs ds
  | _, _, .nil, _ => .nil
  | _, _, .cons a t, c => by
    have c' := c
    simp only [PyData.canLayAll0, Bool.and_eq_true] at c'
    exact .cons (Da.dp s a c'.1) (DaAll.dp s t c'.2)
end
theorem Bo.dp {K : PySem.W.Frag} {C H : Hp} (s : Same C H) {v : V} {d : PyData} (h : Bo w C H v d) (c : d.canLay0 = true) : Dp K H v d := by
  cases h with
  | non => exact .non
  | bl b => exact .bl b
  | int i => exact .int i
  | str x => exact .str x
  | lst e h => exact .lst (SqL.of e) (DaAll.dp s h (by simpa [PyData.canLay0] using c))
  | tup e _ h => exact .tup (sqF (s _ _ e)) (DaAll.dp s h (by simpa [PyData.canLay0] using c))
  | dic e k h => simp [PyData.canLay0] at c
  | dicT e t ks k ne h => simp [PyData.canLay0] at c
def eqD : D2 := fun x y P => match x, y with
  | .str a, .str b => P (.bool (decide (a = b)))
  | .int a, .int b => P (.bool (decide (a = b)))
  | .none, .none => P (.bool true)
  | .bool a, .bool b => P (.bool (decide (a = b)))
  | x, y => Shp x ∧ Shp y ∧ P (.bool (PyData.eqv x y))
def neD : D2 := fun x y P => match x, y with
  | .str a, .str b => P (.bool (!decide (a = b)))
  | .int a, .int b => P (.bool (!decide (a = b)))
  | .none, .none => P (.bool false)
  | .bool a, .bool b => P (.bool (!decide (a = b)))
  | x, y => Shp x ∧ Shp y ∧ P (.bool (!PyData.eqv x y))
theorem dec_str (a b : Str) : decide (V.str a = V.str b) = decide (a = b) := by
  by_cases h : a = b
  · rw [decide_eq_true h, decide_eq_true (by rw [h])]
  · rw [decide_eq_false h, decide_eq_false fun e => h (V.str.inj e)]
theorem dec_int (a b : Int) : decide (V.int a = V.int b) = decide (a = b) := by
  by_cases h : a = b
  · rw [decide_eq_true h, decide_eq_true (by rw [h])]
  · rw [decide_eq_false h, decide_eq_false fun e => h (V.int.inj e)]
theorem dec_bl (a b : Bool) : decide (V.bl a = V.bl b) = decide (a = b) := by cases a <;> cases b <;> rfl
theorem ok_eq : OkD τ X (orR rEq (rEqD X.K)) eqD := by
  intro F ρ C σ H x y d e P Q R dx dy h z
  have gen : (Shp d ∧ Shp e ∧ P (.bool (PyData.eqv d e))) → orR rEq (rEqD X.K) x y H Q := fun ⟨a, b, c⟩ =>
    .inr ⟨d, e, dx.dp R.sub (SeqAt.canLay_of_shaped a), dy.dp R.sub (SeqAt.canLay_of_shaped b), a, b, okq R z c (.bl _)⟩
  cases dx <;> cases dy <;> first
    | exact gen h
    | exact .inl ⟨rfl, by rw [dec_str]; exact okq R z h (.bl _)⟩
    | exact .inl ⟨rfl, by rw [dec_int]; exact okq R z h (.bl _)⟩
    | exact .inl ⟨rfl, by rw [dec_bl]; exact okq R z h (.bl _)⟩
    | exact .inl ⟨rfl, okq R z h (.bl _)⟩
theorem ok_ne : OkD τ X (orR rNe (rNeD X.K)) neD := by
  intro F ρ C σ H x y d e P Q R dx dy h z
  have gen : (Shp d ∧ Shp e ∧ P (.bool (!PyData.eqv d e))) → orR rNe (rNeD X.K) x y H Q := fun ⟨a, b, c⟩ =>
    .inr ⟨d, e, dx.dp R.sub (SeqAt.canLay_of_shaped a), dy.dp R.sub (SeqAt.canLay_of_shaped b), a, b, okq R z c (.bl _)⟩
  cases dx <;> cases dy <;> first
    | exact gen h
    | exact .inl ⟨rfl, by rw [dec_str]; exact okq R z h (.bl _)⟩
    | exact .inl ⟨rfl, by rw [dec_int]; exact okq R z h (.bl _)⟩
    | exact .inl ⟨rfl, by rw [dec_bl]; exact okq R z h (.bl _)⟩
    | exact .inl ⟨rfl, okq R z h (.bl _)⟩
section
variable {a b : Expr} {qa qb : QE} {pos : Pos}
theorem qe_eq (hu : X.A.units + 64 < cLine) (ha : PQ τ X a qa) (hb : PQ τ X b qb) : PQ τ X (.Compare a [.Eq] [b] pos) (qOp eqD qa qb) := pe_imp _ (pe_cmpR (OpR.or op_eq (op_eqD hu)) ha hb (nomark _)) (op_imp ok_eq)
theorem qe_ne (hu : X.A.units + 64 < cLine) (ha : PQ τ X a qa) (hb : PQ τ X b qb) : PQ τ X (.Compare a [.NotEq] [b] pos) (qOp neD qa qb) := pe_imp _ (pe_cmpR (OpR.or op_ne (op_neD hu)) ha hb (nomark _)) (op_imp ok_ne)
end
/-- the left one is a name that holds an own thing -/
def qOpL (r : D2) (i : Nat) (b : QE) : QE := fun ρ κ => (datAt ρ i).isSome = true ∧ b ρ fun y ρ2 => match datAt ρ2 i with
  | some x => r x y fun z => κ z ρ2
  | none => False
theorem opL_imp {r2 : R2} {r : D2} {i : Nat} {b : QE} (ok : OkD τ X r2 r) : ∀ σ H Q, liftE (X.pk τ) (qOpL r i b) σ H Q → tOp r2 (tVar i) (liftE (X.pk τ) b) σ H Q := by
  rintro σ H Q ⟨F, ρ, C, R, κ, ⟨k0, k⟩, z⟩
  obtain ⟨d0, e0⟩ := Option.isSome_iff_exists.mp k0
  obtain ⟨v, hv, _⟩ := R.bo e0
  refine ⟨v, hv, F, ρ, C, R, _, k, fun e ρ2 u C2 H2 k2 s2 R2 d2 => ?_⟩
  split at k2
  · rename_i x hx
    obtain ⟨v', hv', b'⟩ := R2.bo hx
    rw [hv] at hv'; cases hv'
    exact ok F ρ2 C2 σ H2 v u x e _ Q R2 b' (d2.bo R2.sub) k2 fun w v C' H' kw s' R' d' => z _ _ _ _ _ kw (same_trans s2 s') R' d'
  · exact k2.elim
/-- the right one is a name that holds an own thing -/
def qOpR (r : D2) (a : QE) (i : Nat) : QE := fun ρ κ => a ρ fun x ρ1 => match datAt ρ1 i with
  | some y => r x y fun z => κ z ρ1
  | none => False
theorem opR_imp {r2 : R2} {r : D2} {i : Nat} {a : QE} (ok : OkD τ X r2 r) : ∀ σ H Q, liftE (X.pk τ) (qOpR r a i) σ H Q → tOp r2 (liftE (X.pk τ) a) (tVar i) σ H Q := by
  rintro σ H Q ⟨F, ρ, C, R, κ, k, z⟩
  refine ⟨F, ρ, C, R, _, k, fun d ρ1 v C1 H1 k1 s1 R1 d1 => ?_⟩
  split at k1
  · rename_i y hy
    obtain ⟨u, hu, b'⟩ := R1.bo hy
    exact ⟨u, hu, ok F ρ1 C1 σ H1 v u d y _ Q R1 (d1.bo R1.sub) b' k1 fun w v C' H' kw s' R' d' => z _ _ _ _ _ kw (same_trans s1 s') R' d'⟩
  · exact k1.elim
section
variable {a b : Expr} {qa qb : QE} {pos : Pos} {i : Nat}
theorem qe_addL (ha : PE X a (tVar i)) (hb : PQ τ X b qb) : PQ τ X (.BinOp a .Add b pos) (qOpL addD i qb) := pe_imp _ (pe_op op_addD ha hb) (opL_imp ok_add)
theorem qe_eqL (hu : X.A.units + 64 < cLine) (ha : PE X a (tVar i)) (hb : PQ τ X b qb) : PQ τ X (.Compare a [.Eq] [b] pos) (qOpL eqD i qb) := pe_imp _ (pe_cmpR (OpR.or op_eq (op_eqD hu)) ha hb (nomark _)) (opL_imp ok_eq)
theorem qe_neL (hu : X.A.units + 64 < cLine) (ha : PE X a (tVar i)) (hb : PQ τ X b qb) : PQ τ X (.Compare a [.NotEq] [b] pos) (qOpL neD i qb) := pe_imp _ (pe_cmpR (OpR.or op_ne (op_neD hu)) ha hb (nomark _)) (opL_imp ok_ne)
end
/-- a test that is a comparison -/
def qB (q : QE) : QT := fun ρ κ => q ρ fun d ρ1 => match d with
  | .bool b => κ b ρ1
  | _ => False
theorem test_imp {T : PK} {q : QE} {t : TE} (h : ∀ σ H Q, liftE T q σ H Q → t σ H Q) : ∀ σ H Q, liftT T (qB q) σ H Q → tTest t σ H Q := by
  rintro σ H Q ⟨F, ρ, C, R, κ, k, z⟩
  refine h σ H _ ⟨F, ρ, C, R, _, k, fun d ρ1 v C1 H1 k1 s1 R1 d1 => ?_⟩
  cases d1 with
  | bl b => exact ⟨b, rfl, z _ _ _ _ k1 s1 R1⟩
  | _ => exact k1.elim
section
variable {a b : Expr} {qa qb : QE} {pos : Pos}
theorem qt_eq (hu : X.A.units + 64 < cLine) (ha : PQ τ X a qa) (hb : PQ τ X b qb) : PQT τ X (.Compare a [.Eq] [b] pos) (qB (qOp eqD qa qb)) := pt_imp _ (pt_cmpR (OpR.or op_eq (op_eqD hu)) ha hb (nomark _)) (test_imp (op_imp ok_eq))
theorem qt_eqL {i : Nat} (hu : X.A.units + 64 < cLine) (ha : PE X a (tVar i)) (hb : PQ τ X b qb) : PQT τ X (.Compare a [.Eq] [b] pos) (qB (qOpL eqD i qb)) := pt_imp _ (pt_cmpR (OpR.or op_eq (op_eqD hu)) ha hb (nomark _)) (test_imp (opL_imp ok_eq))
theorem qt_neL {i : Nat} (hu : X.A.units + 64 < cLine) (ha : PE X a (tVar i)) (hb : PQ τ X b qb) : PQT τ X (.Compare a [.NotEq] [b] pos) (qB (qOpL neD i qb)) := pt_imp _ (pt_cmpR (OpR.or op_ne (op_neD hu)) ha hb (nomark _)) (test_imp (opL_imp ok_ne))
theorem qt_ne (hu : X.A.units + 64 < cLine) (ha : PQ τ X a qa) (hb : PQ τ X b qb) : PQT τ X (.Compare a [.NotEq] [b] pos) (qB (qOp neD qa qb)) := pt_imp _ (pt_cmpR (OpR.or op_ne (op_neD hu)) ha hb (nomark _)) (test_imp (op_imp ok_ne))
end
end
end L2.Pu

set_option Elab.async false
set_option linter.all false
set_option maxRecDepth 100000
set_option maxHeartbeats 4000000
/-! ## More expressions -/
namespace L2.Pu
open PySem PySem.Spec PyProof.Rows
section
variable {X : Cx} {τ : Tb} {a b c : Expr} {qa qb qc : QE} {pos : Pos}
/-- < on whole numbers and texts; <=, >, >= on whole numbers -/
def ltD : D2 := fun x y P => match x, y with
  | .int a, .int b => P (.bool (decide (a < b)))
  | .str a, .str b => P (.bool (decide (a.cps.toList < b.cps.toList)))
  | _, _ => False
abbrev rLt : R2 := orR (rI0 fun i j => .bl (decide (i < j))) (fun x y H Q => ∃ i j, x = .str i ∧ y = .str j ∧ Q (.bl (decide (i.cps.toList < j.cps.toList))) H)
theorem ok_lt : OkD τ X rLt ltD := by
  intro F ρ C σ H x y d e P Q R dx dy h z
  cases dx with
  | int a =>
    cases dy with
    | int b => exact .inl ⟨a, b, rfl, rfl, okq R z h (.bl _)⟩
    | _ => exact h.elim
  | str a =>
    cases dy with
    | str b => exact .inr ⟨a, b, rfl, rfl, okq R z h (.bl _)⟩
    | _ => exact h.elim
  | _ => exact h.elim
theorem qe_lt (ha : PQ τ X a qa) (hb : PQ τ X b qb) : PQ τ X (.Compare a [.Lt] [b] pos) (qOp ltD qa qb) := pe_imp _ (pe_cmpR (OpR.or op_lt op_lt_str) ha hb (nomark _)) (op_imp ok_lt)
theorem qt_lt (ha : PQ τ X a qa) (hb : PQ τ X b qb) : PQT τ X (.Compare a [.Lt] [b] pos) (qB (qOp ltD qa qb)) := pt_imp _ (pt_cmpR (OpR.or op_lt op_lt_str) ha hb (nomark _)) (test_imp (op_imp ok_lt))
abbrev cmpI (g : Int → Int → Bool) : D2 := intD0 fun i j => .bool (g i j)
theorem qe_le (ha : PQ τ X a qa) (hb : PQ τ X b qb) : PQ τ X (.Compare a [.LtE] [b] pos) (qOp (cmpI fun i j => decide (i ≤ j)) qa qb) := pe_imp _ (pe_cmpR op_le ha hb (nomark _)) (op_imp (ok_int0 fun _ _ _ => .bl _))
theorem qe_gt (ha : PQ τ X a qa) (hb : PQ τ X b qb) : PQ τ X (.Compare a [.Gt] [b] pos) (qOp (cmpI fun i j => decide (i > j)) qa qb) := pe_imp _ (pe_cmpR op_gt ha hb (nomark _)) (op_imp (ok_int0 fun _ _ _ => .bl _))
theorem qe_ge (ha : PQ τ X a qa) (hb : PQ τ X b qb) : PQ τ X (.Compare a [.GtE] [b] pos) (qOp (cmpI fun i j => decide (i ≥ j)) qa qb) := pe_imp _ (pe_cmpR op_ge ha hb (nomark _)) (op_imp (ok_int0 fun _ _ _ => .bl _))
theorem qt_le (ha : PQ τ X a qa) (hb : PQ τ X b qb) : PQT τ X (.Compare a [.LtE] [b] pos) (qB (qOp (cmpI fun i j => decide (i ≤ j)) qa qb)) := pt_imp _ (pt_cmpR op_le ha hb (nomark _)) (test_imp (op_imp (ok_int0 fun _ _ _ => .bl _)))
theorem qt_gt (ha : PQ τ X a qa) (hb : PQ τ X b qb) : PQT τ X (.Compare a [.Gt] [b] pos) (qB (qOp (cmpI fun i j => decide (i > j)) qa qb)) := pt_imp _ (pt_cmpR op_gt ha hb (nomark _)) (test_imp (op_imp (ok_int0 fun _ _ _ => .bl _)))
theorem qt_ge (ha : PQ τ X a qa) (hb : PQ τ X b qb) : PQT τ X (.Compare a [.GtE] [b] pos) (qB (qOp (cmpI fun i j => decide (i ≥ j)) qa qb)) := pt_imp _ (pt_cmpR op_ge ha hb (nomark _)) (test_imp (op_imp (ok_int0 fun _ _ _ => .bl _)))
/-- a < b < c on whole numbers -/
def qChain (g g' : Int → Int → Bool) (a b c : QE) : QE := fun ρ κ => a ρ fun x ρ1 => b ρ1 fun y ρ2 => match x, y with
  | .int i, .int j => yn (g i j) (c ρ2 fun z ρ3 => match z with
      | .int k => κ (.bool (g' j k)) ρ3
      | _ => False) (κ (.bool false) ρ2)
  | _, _ => False
theorem chain_imp {g g' : Int → Int → Bool} : ∀ σ H Q, liftE (X.pk τ) (qChain g g' qa qb qc) σ H Q → tChain (rI0 fun i j => .bl (g i j)) (rI0 fun i j => .bl (g' i j)) (liftE (X.pk τ) qa) (liftE (X.pk τ) qb) (liftE (X.pk τ) qc) σ H Q := by
  rintro σ H Q ⟨F, ρ, C, R, κ, k, z⟩
  refine ⟨F, ρ, C, R, _, k, fun d ρ1 v C1 H1 k1 s1 R1 d1 => ⟨F, ρ1, C1, R1, _, k1, fun e ρ2 u C2 H2 k2 s2 R2 d2 => ?_⟩⟩
  cases d1 with
  | int i =>
    cases d2 with
    | int j =>
      dsimp only at k2
      refine ⟨i, j, rfl, rfl, g i j, rfl, ?_⟩
      cases hg : g i j with
      | false =>
        rw [hg] at k2
        exact z _ _ _ _ _ k2 (same_trans s1 s2) R2 (.bl _)
      | true =>
        rw [hg] at k2
        refine ⟨F, ρ2, C2, R2, _, k2, fun f ρ3 w C3 H3 k3 s3 R3 d3 => ?_⟩
        cases d3 with
        | int l => exact ⟨j, l, rfl, rfl, z _ _ _ _ _ k3 (same_trans s1 (same_trans s2 s3)) R3 (.bl _)⟩
        | _ => exact k3.elim
    | _ => exact k2.elim
  | _ => exact k2.elim

theorem qe_chainLL (ha : PQ τ X a qa) (hb : PQ τ X b qb) (hc : PQ τ X c qc) : PQ τ X (.Compare a [.LtE, .LtE] [b, c] pos) (qChain (fun i j => decide (i ≤ j)) (fun i j => decide (i ≤ j)) qa qb qc) := pe_imp _ (pe_chain op_le op_le ha hb hc (nomark c)) chain_imp
theorem qe_chainLl (ha : PQ τ X a qa) (hb : PQ τ X b qb) (hc : PQ τ X c qc) : PQ τ X (.Compare a [.LtE, .Lt] [b, c] pos) (qChain (fun i j => decide (i ≤ j)) (fun i j => decide (i < j)) qa qb qc) := pe_imp _ (pe_chain op_le op_lt ha hb hc (nomark c)) chain_imp
theorem qt_chainLL (ha : PQ τ X a qa) (hb : PQ τ X b qb) (hc : PQ τ X c qc) : PQT τ X (.Compare a [.LtE, .LtE] [b, c] pos) (qB (qChain (fun i j => decide (i ≤ j)) (fun i j => decide (i ≤ j)) qa qb qc)) := pt_imp _ (pt_chain op_le op_le ha hb hc (nomark c)) (test_imp chain_imp)
theorem qt_chainLl (ha : PQ τ X a qa) (hb : PQ τ X b qb) (hc : PQ τ X c qc) : PQT τ X (.Compare a [.LtE, .Lt] [b, c] pos) (qB (qChain (fun i j => decide (i ≤ j)) (fun i j => decide (i < j)) qa qb qc)) := pt_imp _ (pt_chain op_le op_lt ha hb hc (nomark c)) (test_imp chain_imp)
/-! ### tests -/
theorem qt_val (h : PQ τ X a qa) (he : ∀ whole, isTrue a X.env whole = (do let v ← whole; standAt a.pos; holding [v] (truthy v)) := by intro _; rfl) : PQT τ X a (qB qa) := by
  refine pt_imp _ (pt_val h he) ?_
  rintro σ H Q ⟨F, ρ, C, R, κ, k, z⟩
  refine ⟨F, ρ, C, R, _, k, fun d ρ1 v C1 H1 k1 s1 R1 d1 => ?_⟩
  cases d1 with
  | bl b => exact ⟨b, rfl, z _ _ _ _ k1 s1 R1⟩
  | _ => exact k1.elim
def truD : PyData → Option Bool
  | .none => some false
  | .bool b => some b
  | .int i => some (i != 0)
  | .list ds => some (!ds.isEmpty)
  | .tuple ds => some (!ds.isEmpty)
  | _ => none
def qTru (q : QE) : QT := fun ρ κ => q ρ fun d ρ1 => match truD d with
  | some b => κ b ρ1
  | none => False
theorem isE {C : Hp} {vs : List V} {ds : List PyData} (h : DaAll w C vs ds) : vs.isEmpty = ds.isEmpty := by cases h <;> rfl
theorem qt_tru (h : PQ τ X a qa) (he : ∀ whole, isTrue a X.env whole = (do let v ← whole; standAt a.pos; holding [v] (truthy v)) := by intro _; rfl) : PQT τ X a (qTru qa) := by
  refine pt_imp _ (pt_truth h he) ?_
  rintro σ H Q ⟨F, ρ, C, R, κ, k, z⟩
  refine ⟨F, ρ, C, R, _, k, fun d ρ1 v C1 H1 k1 s1 R1 d1 => ?_⟩
  cases d1 with
  | non => exact ⟨false, rfl, z _ _ _ _ k1 s1 R1⟩
  | bl b => exact ⟨b, rfl, z _ _ _ _ k1 s1 R1⟩
  | int i => exact ⟨i != 0, rfl, z _ _ _ _ k1 s1 R1⟩
  | str x => exact k1.elim
  | lst e _ da => exact ⟨_, .inl ⟨_, SqL.of (R1.sub _ _ e), by rw [isE da]⟩, z _ _ _ _ k1 s1 R1⟩
  | tup e _ da => exact ⟨_, .inr (.inl ⟨_, sqF (R1.sub _ _ e), by rw [isE da]⟩), z _ _ _ _ k1 s1 R1⟩
  | dic => exact k1.elim
  | dicT => exact k1.elim
section
variable {ta tb : QT} {rest : List Expr}
def qNot (t : QT) : QT := fun ρ κ => t ρ fun b ρ1 => κ (!b) ρ1
theorem qt_not (h : PQT τ X a ta) : PQT τ X (.UnaryOp .Not a pos) (qNot ta) := by
  refine pt_imp _ (pt_not h) ?_
  rintro σ H Q ⟨F, ρ, C, R, κ, k, z⟩
  exact ⟨F, ρ, C, R, _, k, fun b ρ1 C1 H1 k1 s1 R1 => z _ _ _ _ k1 s1 R1⟩
abbrev PQW (τ : Tb) (X : Cx) (e : Expr) (q : QT) : Prop := PW X e (liftT (X.pk τ) q)
def qAnd (t u : QT) : QT := fun ρ κ => t ρ fun b ρ1 => yn b (u ρ1 κ) (κ false ρ1)
def qOr (t u : QT) : QT := fun ρ κ => t ρ fun b ρ1 => yn b (κ true ρ1) (u ρ1 κ)
theorem qw_and1 (h : PQT τ X a ta) : PQW τ X (.BoolOp .And [a] pos) ta := pw_and1 h
theorem qw_or1 (h : PQT τ X a ta) : PQW τ X (.BoolOp .Or [a] pos) ta := pw_or1 h
theorem qw_and (h : PQT τ X a ta) (hb : PQW τ X (.BoolOp .And (b :: rest) pos) tb) : PQW τ X (.BoolOp .And (a :: b :: rest) pos) (qAnd ta tb) := by
  refine pw_imp _ (pw_and h hb) ?_
  rintro σ H Q ⟨F, ρ, C, R, κ, k, z⟩
  refine ⟨F, ρ, C, R, _, k, fun d ρ1 C1 H1 k1 s1 R1 => ?_⟩
  cases d with
  | true => exact ⟨F, ρ1, C1, R1, κ, k1, fun b ρ2 C2 H2 k2 s2 R2 => z _ _ _ _ k2 (same_trans s1 s2) R2⟩
  | false => exact z _ _ _ _ k1 s1 R1
theorem qw_or (h : PQT τ X a ta) (hb : PQW τ X (.BoolOp .Or (b :: rest) pos) tb) : PQW τ X (.BoolOp .Or (a :: b :: rest) pos) (qOr ta tb) := by
  refine pw_imp _ (pw_or h hb) ?_
  rintro σ H Q ⟨F, ρ, C, R, κ, k, z⟩
  refine ⟨F, ρ, C, R, _, k, fun d ρ1 C1 H1 k1 s1 R1 => ?_⟩
  cases d with
  | true => exact z _ _ _ _ k1 s1 R1
  | false => exact ⟨F, ρ1, C1, R1, κ, k1, fun b ρ2 C2 H2 k2 s2 R2 => z _ _ _ _ k2 (same_trans s1 s2) R2⟩
/-- and, or, not as values: all but the last True or False -/
def qAndV (a b : QE) : QE := fun ρ κ => a ρ fun d ρ1 => match d with
  | .bool c => if c = true then b ρ1 κ else κ (.bool false) ρ1
  | _ => False
def qOrV (a b : QE) : QE := fun ρ κ => a ρ fun d ρ1 => match d with
  | .bool c => if c = true then κ (.bool true) ρ1 else b ρ1 κ
  | _ => False
theorem qe_one {op} (h : PQ τ X a qa) : PQ τ X (.BoolOp op [a] pos) qa := pe_one h
theorem qe_and (h : PQ τ X a qa) (hb : PQ τ X (.BoolOp .And (b :: rest) pos) qb) : PQ τ X (.BoolOp .And (a :: b :: rest) pos) (qAndV qa qb) := by
  refine pe_imp _ (pe_and h hb) ?_
  rintro σ H Q ⟨F, ρ, C, R, κ, k, z⟩
  refine ⟨F, ρ, C, R, _, k, fun d ρ1 v C1 H1 k1 s1 R1 d1 => ?_⟩
  cases d1 with
  | bl c =>
    refine ⟨c, rfl, ?_⟩
    cases c with
    | true => exact ⟨F, ρ1, C1, R1, κ, k1, fun e ρ2 u C2 H2 k2 s2 R2 d2 => z _ _ _ _ _ k2 (same_trans s1 s2) R2 d2⟩
    | false => exact z _ _ _ _ _ k1 s1 R1 (.bl _)
  | _ => exact k1.elim
theorem qe_or (h : PQ τ X a qa) (hb : PQ τ X (.BoolOp .Or (b :: rest) pos) qb) : PQ τ X (.BoolOp .Or (a :: b :: rest) pos) (qOrV qa qb) := by
  refine pe_imp _ (pe_or h hb) ?_
  rintro σ H Q ⟨F, ρ, C, R, κ, k, z⟩
  refine ⟨F, ρ, C, R, _, k, fun d ρ1 v C1 H1 k1 s1 R1 d1 => ?_⟩
  cases d1 with
  | bl c =>
    refine ⟨c, rfl, ?_⟩
    cases c with
    | true => exact z _ _ _ _ _ k1 s1 R1 (.bl _)
    | false => exact ⟨F, ρ1, C1, R1, κ, k1, fun e ρ2 u C2 H2 k2 s2 R2 d2 => z _ _ _ _ _ k2 (same_trans s1 s2) R2 d2⟩
  | _ => exact k1.elim
def notD : PyData → (PyData → Prop) → Prop := fun x P => match x with
  | .bool b => P (.bool (!b))
  | _ => False
theorem qe_not (h : PQ τ X a qa) : PQ τ X (.UnaryOp .Not a pos) (qUn notD qa) := by
  refine pe_imp _ (pe_not h) ?_
  rintro σ H Q ⟨F, ρ, C, R, κ, k, z⟩
  refine ⟨F, ρ, C, R, _, k, fun d ρ1 v C1 H1 k1 s1 R1 d1 => ?_⟩
  cases d1 with
  | bl c => exact ⟨c, rfl, z _ _ _ _ _ k1 s1 R1 (.bl _)⟩
  | _ => exact k1.elim
def qIf (t : QT) (a b : QE) : QE := fun ρ κ => t ρ fun c ρ1 => yn c (a ρ1 κ) (b ρ1 κ)
theorem qe_if {t : Expr} (ht : PQT τ X t ta) (ha : PQ τ X a qa) (hb : PQ τ X b qb) : PQ τ X (.IfExp t a b pos) (qIf ta qa qb) := by
  refine pe_imp _ (pe_ifExp ht ha hb) ?_
  rintro σ H Q ⟨F, ρ, C, R, κ, k, z⟩
  refine ⟨F, ρ, C, R, _, k, fun d ρ1 C1 H1 k1 s1 R1 => ?_⟩
  cases d with
  | true => exact ⟨F, ρ1, C1, R1, κ, k1, fun e ρ2 u C2 H2 k2 s2 R2 d2 => z _ _ _ _ _ k2 (same_trans s1 s2) R2 d2⟩
  | false => exact ⟨F, ρ1, C1, R1, κ, k1, fun e ρ2 u C2 H2 k2 s2 R2 d2 => z _ _ _ _ _ k2 (same_trans s1 s2) R2 d2⟩
end
/-- x is None, x is not None -/
def isND (neg : Bool) : PyData → (PyData → Prop) → Prop := fun x P => match x with
  | .none => P (.bool (!neg))
  | _ => P (.bool neg)
theorem da_non {C : Hp} {v : V} {d : PyData} (h : Da w C v d) : decide (v = V.non) = (match d with | .none => true | _ => false) := by cases h <;> rfl
theorem qe_isN (h : PQ τ X a qa) {j p2} : PQ τ X (.Compare a [.Is] [.Constant .none j p2] pos) (qUn (isND false) qa) := by
  refine pe_imp _ (pe_cmpR op_isN h (pe_non) (nomark _)) ?_
  rintro σ H Q ⟨F, ρ, C, R, κ, k, z⟩
  refine ⟨F, ρ, C, R, _, k, fun d ρ1 v C1 H1 k1 s1 R1 d1 => ⟨rfl, ?_⟩⟩
  cases d1 <;> exact z _ _ _ _ _ k1 s1 R1 (.bl _)
theorem qe_notN (h : PQ τ X a qa) {j p2} : PQ τ X (.Compare a [.IsNot] [.Constant .none j p2] pos) (qUn (isND true) qa) := by
  refine pe_imp _ (pe_cmpR op_notN h (pe_non) (nomark _)) ?_
  rintro σ H Q ⟨F, ρ, C, R, κ, k, z⟩
  refine ⟨F, ρ, C, R, _, k, fun d ρ1 v C1 H1 k1 s1 R1 d1 => ⟨rfl, ?_⟩⟩
  cases d1 <;> exact z _ _ _ _ _ k1 s1 R1 (.bl _)

/-! ### membership -/
def flatD : PyData → Bool
  | .none | .bool _ | .int _ | .str _ => true
  | _ => false
theorem flat_v {C : Hp} {v : V} {d : PyData} (h : Da w C v d) : flatV v = flatD d := by cases h <;> rfl
theorem flat_all {C : Hp} : ∀ {vs : List V} {ds : List PyData}, DaAll w C vs ds → vs.all flatV = ds.all flatD
  | _, _, .nil => rfl
  | _, _, .cons a t => by rw [List.all_cons, List.all_cons, flat_v a, flat_all t]
theorem eq_v {C : Hp} {v u : V} {d e : PyData} (h : Da w C v d) (h' : Da w C u e) (f : flatD d = true) (f' : flatD e = true) : eqV v u = PyData.eqv d e := by
  cases h <;> first | cases f | skip
  all_goals cases h' <;> first | cases f' | skip
  all_goals simp only [eqV, PyData.eqv]
theorem in_v {C : Hp} {u : V} {e : PyData} (h' : Da w C u e) (f' : flatD e = true) : ∀ {vs : List V} {ds : List PyData}, DaAll w C vs ds → ds.all flatD = true → inV u vs = ds.any fun z => PyData.eqv z e
  | _, _, .nil, _ => rfl
  | v :: vs, d :: ds, .cons a t, f => by
    rw [List.all_cons, Bool.and_eq_true] at f
    show (eqV v u || inV u vs) = _
    rw [in_v h' f' t f.2, eq_v a h' f.1 f', List.any_cons]
def Bo.flat {C H : Hp} {v : V} {d : PyData} (h : Bo w C H v d) (f : flatD d = true) : Da w C v d := by
  cases h with
  | non => exact .non
  | bl b => exact .bl b
  | int i => exact .int i
  | str x => exact .str x
  | _ => cases f
def ng (neg b : Bool) : Bool := match neg with
  | true => !b
  | false => b
theorem ng_eq (neg b : Bool) : ng neg b = xor neg b := by cases neg <;> cases b <;> rfl
/-- y among the items ds (x == y for some x) -/
def inSeq (neg : Bool) (x : PyData) (ds : List PyData) (seq : PyData) (P : PyData → Prop) : Prop :=
  ((flatD x && ds.all flatD) = true ∨ (Shp x ∧ Shp seq)) ∧ P (.bool (ng neg (ds.any fun z => PyData.eqv z x)))
def inStr (neg : Bool) (a z : Str) (P : PyData → Prop) : Prop := match a.cps.toList with
  | [c] => P (.bool (ng neg (decide (c ∈ z.cps.toList))))
  | _ => P (.bool (ng neg (!(Builtin.Str.occurrences z a 0 z.length 1).isEmpty)))
/-- x in y: one sign in a text, a text in a text, data in a list or a tuple (by ==) -/
def inD (neg : Bool) : D2 := fun x y P => match y with
  | .list ds => inSeq neg x ds (.list ds) P
  | .tuple ds => inSeq neg x ds (.tuple ds) P
  | .str z => match x with
    | .str a => inStr neg a z P
    | _ => False
  | _ => False
def rInT (K : PySem.W.Frag) (neg : Bool) : R2 := fun x y H Q => ∃ d ds, Dp K H x d ∧ (Dp K H y (.list ds) ∨ Dp K H y (.tuple ds)) ∧ SeqAt.shaped d = true ∧ SeqAt.shaped (.list ds) = true ∧ Q (.bl (xor neg (ds.any fun z => PyData.eqv z d))) H
theorem op_inT (hu : X.A.units + 65 < cLine) : OpR X (compareOp .In) (rInT X.K false) := by
  intro pins s σ H x y v u Q I rx ry h
  obtain ⟨d, ds, hd, he, sd, se, q⟩ := h
  obtain ⟨as, r1⟩ := Dp.reads I d x v hd rx
  rw [Bool.false_xor] at q
  rcases he with he | he
  · obtain ⟨bs, r2⟩ := Dp.reads I (.list ds) y u he ry
    exact SeqAt.in_list_reads r2 r1 (SeqAt.canLay_of_shaped se) (SeqAt.canLay_of_shaped sd) (room_in_shaped sd hu) ⟨.bl _, H, I, rfl, q⟩
  · obtain ⟨bs, r2⟩ := Dp.reads I (.tuple ds) y u he ry
    exact SeqAt.in_tuple_reads r2 r1 (SeqAt.canLay_of_shaped se) (SeqAt.canLay_of_shaped sd) (room_in_shaped sd hu) ⟨.bl _, H, I, rfl, q⟩
theorem op_notInT (hu : X.A.units + 65 < cLine) : OpR X (compareOp .NotIn) (rInT X.K true) := by
  intro pins s σ H x y v u Q I rx ry h
  obtain ⟨d, ds, hd, he, sd, se, q⟩ := h
  obtain ⟨as, r1⟩ := Dp.reads I d x v hd rx
  rw [Bool.true_xor] at q
  rcases he with he | he
  · obtain ⟨bs, r2⟩ := Dp.reads I (.list ds) y u he ry
    exact SeqAt.notIn_list_reads r2 r1 (SeqAt.canLay_of_shaped se) (SeqAt.canLay_of_shaped sd) (room_in_shaped sd hu) ⟨.bl _, H, I, rfl, q⟩
  · obtain ⟨bs, r2⟩ := Dp.reads I (.tuple ds) y u he ry
    exact SeqAt.notIn_tuple_reads r2 r1 (SeqAt.canLay_of_shaped se) (SeqAt.canLay_of_shaped sd) (room_in_shaped sd hu) ⟨.bl _, H, I, rfl, q⟩
abbrev rIn1 (neg : Bool) : R2 := fun x y H Q => ∃ (c : Nat) (z : Str), x = .str ⟨#[c]⟩ ∧ y = .str z ∧ Q (.bl (xor neg (decide (c ∈ z.cps.toList)))) H
abbrev rInZ (neg : Bool) : R2 := fun x y H Q => ∃ i j, x = .str i ∧ y = .str j ∧ Q (.bl (xor neg (!(Builtin.Str.occurrences j i 0 j.length 1).isEmpty))) H
abbrev rInAll (K : PySem.W.Frag) (neg : Bool) : R2 := orR (rIn1 neg) (orR (rInZ neg) (orR (rIn K neg) (rInT K neg)))
theorem OpR.cong {f : Value → Value → Sem Value} {r s : R2} (a : OpR X f r) (h : ∀ x y H Q, s x y H Q → r x y H Q) : OpR X f s := fun pins sh σ H x y v u Q I rx ry q => a pins sh σ H x y v u Q I rx ry (h _ _ _ _ q)
theorem op_inAll (hu : X.A.units + 65 < cLine) : OpR X (compareOp .In) (rInAll X.K false) :=
  OpR.or (OpR.cong op_in_sign fun x y H Q ⟨c, z, a, b, q⟩ => ⟨c, z, a, b, by rw [Bool.false_xor] at q; exact q⟩)
    (OpR.or (OpR.cong op_in_str fun x y H Q ⟨c, z, a, b, q⟩ => ⟨c, z, a, b, by rw [Bool.false_xor] at q; exact q⟩) (OpR.or op_in_seq (op_inT hu)))
theorem op_notInAll (hu : X.A.units + 65 < cLine) : OpR X (compareOp .NotIn) (rInAll X.K true) :=
  OpR.or (OpR.cong op_notIn_sign fun x y H Q ⟨c, z, a, b, q⟩ => ⟨c, z, a, b, by rw [Bool.true_xor] at q; exact q⟩)
    (OpR.or (OpR.cong op_notIn_str fun x y H Q ⟨c, z, a, b, q⟩ => ⟨c, z, a, b, by rw [Bool.true_xor] at q; exact q⟩) (OpR.or op_notIn_seq (op_notInT hu)))
theorem ok_in {neg : Bool} : OkD τ X (rInAll X.K neg) (inD neg) := by
  intro F ρ C σ H x y d e P Q R dx dy h z
  have seq : ∀ (ds : List PyData) (sq : PyData) (a : Addr) (xs : List V), y = .ref a → (SqL X.K H a xs ∨ SqT X.K H a xs) → DaAll X.w C xs ds → e = sq → (sq = .list ds ∨ sq = .tuple ds) → inSeq neg d ds sq P → rInAll X.K neg x y H Q := by
    intro ds sq a xs ey hq hd es hs h
    obtain ⟨hf | ⟨s1, s2⟩, h⟩ := h <;> rw [ng_eq] at h
    · rw [Bool.and_eq_true] at hf
      have dx' := dx.flat hf.1
      refine .inr (.inr (.inl ⟨a, xs, ey, hq, by rw [flat_v dx']; exact hf.1, by rw [flat_all hd]; exact hf.2, ?_⟩))
      have e1 := in_v dx' hf.1 hd hf.2
      cases neg with
      | false => rw [Bool.false_xor] at h; exact okq R z h (by rw [← e1]; exact .bl _)
      | true => rw [Bool.true_xor] at h; exact okq R z h (by rw [← e1]; exact .bl _)
    · have s3 : SeqAt.shaped (.list ds) = true := by rcases hs with rfl | rfl <;> exact s2
      refine .inr (.inr (.inr ⟨d, ds, dx.dp R.sub (SeqAt.canLay_of_shaped s1), ?_, s1, s3, okq R z h (.bl _)⟩))
      subst es
      rcases hs with rfl | rfl
      · exact .inl (dy.dp R.sub (SeqAt.canLay_of_shaped s2))
      · exact .inr (dy.dp R.sub (SeqAt.canLay_of_shaped s2))
  cases dy with
  | str w =>
    cases dx with
    | str a =>
      have h : inStr neg a w P := h
      unfold inStr at h
      simp only [ng_eq] at h
      split at h
      · rename_i c e1
        have e2 : a = ⟨#[c]⟩ := by
          cases a with
          | mk cps => cases cps with
            | mk l => cases e1; rfl
        exact .inl ⟨c, _, by rw [e2], rfl, okq R z h (.bl _)⟩
      · exact .inr (.inl ⟨_, _, rfl, rfl, okq R z h (.bl _)⟩)
    | _ => exact False.elim h
  | @lst a xs ds ea da => exact seq ds (.list ds) a xs rfl (.inl (SqL.of ea)) da rfl (.inl rfl) h
  | @tup a oa xs ds ea na da => exact seq ds (.tuple ds) a xs rfl (.inr (sqF (R.sub _ _ ea))) da rfl (.inr rfl) h
  | _ => exact False.elim h
section
variable {i : Nat}
theorem qe_in (hu : X.A.units + 65 < cLine) (ha : PQ τ X a qa) (hb : PQ τ X b qb) (hm : behindInMarks .In b = false := by with_unfolding_all rfl) : PQ τ X (.Compare a [.In] [b] pos) (qOp (inD false) qa qb) := pe_imp _ (pe_cmpR (op_inAll hu) ha hb hm) (op_imp ok_in)
theorem qe_notIn (hu : X.A.units + 65 < cLine) (ha : PQ τ X a qa) (hb : PQ τ X b qb) (hm : behindInMarks .NotIn b = false := by with_unfolding_all rfl) : PQ τ X (.Compare a [.NotIn] [b] pos) (qOp (inD true) qa qb) := pe_imp _ (pe_cmpR (op_notInAll hu) ha hb hm) (op_imp ok_in)
theorem qt_in (hu : X.A.units + 65 < cLine) (ha : PQ τ X a qa) (hb : PQ τ X b qb) (hm : behindInMarks .In b = false := by with_unfolding_all rfl) : PQT τ X (.Compare a [.In] [b] pos) (qB (qOp (inD false) qa qb)) := pt_imp _ (pt_cmpR (op_inAll hu) ha hb hm) (test_imp (op_imp ok_in))
theorem qt_notIn (hu : X.A.units + 65 < cLine) (ha : PQ τ X a qa) (hb : PQ τ X b qb) (hm : behindInMarks .NotIn b = false := by with_unfolding_all rfl) : PQT τ X (.Compare a [.NotIn] [b] pos) (qB (qOp (inD true) qa qb)) := pt_imp _ (pt_cmpR (op_notInAll hu) ha hb hm) (test_imp (op_imp ok_in))
theorem qe_inR (hu : X.A.units + 65 < cLine) (ha : PQ τ X a qa) (hb : PE X b (tVar i)) (hm : behindInMarks .In b = false := by with_unfolding_all rfl) : PQ τ X (.Compare a [.In] [b] pos) (qOpR (inD false) qa i) := pe_imp _ (pe_cmpR (op_inAll hu) ha hb hm) (opR_imp ok_in)
theorem qt_inR (hu : X.A.units + 65 < cLine) (ha : PQ τ X a qa) (hb : PE X b (tVar i)) (hm : behindInMarks .In b = false := by with_unfolding_all rfl) : PQT τ X (.Compare a [.In] [b] pos) (qB (qOpR (inD false) qa i)) := pt_imp _ (pt_cmpR (op_inAll hu) ha hb hm) (test_imp (opR_imp ok_in))
theorem qt_notInR (hu : X.A.units + 65 < cLine) (ha : PQ τ X a qa) (hb : PE X b (tVar i)) (hm : behindInMarks .NotIn b = false := by with_unfolding_all rfl) : PQT τ X (.Compare a [.NotIn] [b] pos) (qB (qOpR (inD true) qa i)) := pt_imp _ (pt_cmpR (op_notInAll hu) ha hb hm) (test_imp (opR_imp ok_in))
end
end
end L2.Pu

set_option Elab.async false
set_option linter.all false
set_option maxRecDepth 100000
set_option maxHeartbeats 4000000
/-! ## Things that are new, statements -/
namespace L2.Pu
open PySem PySem.Spec PyProof.Rows
section
variable {T : PK} {F : Fm} {ρ : Ro} {C : Hp} {σ : St} {H : Hp} {i : Nat} {p : Addr}
/-- p is nobody's yet -/
structure Fresh (F : Fm) (ρ : Ro) (C : Hp) (σ : St) (p : Addr) : Prop where
  core : C p = none
  start : F.H0 p = none
  owned : ∀ (j : Nat) (r : Bool) (o : Own), ρ[j]? = some (.own r o) → σ[j]? ≠ some (some (.ref p))
theorem Rep.new_fresh (R : Rep T F ρ C σ H) (h : H p = none) : Fresh F ρ C σ p := by
  refine ⟨sub_none R.sub h, R.fresh h, fun j r o hj hv => ?_⟩
  obtain ⟨q, a, b, c⟩ := R.own hj
  rw [hv] at a; cases a
  obtain ⟨u, hu⟩ := c.ex
  rw [h] at hu; cases hu
/-- p is kept as it is meanwhile -/
def Fm.guard (F : Fm) (p : Addr) (u : HO) : Fm := ⟨F.C0, upd F.H0 p u, F.refs⟩
theorem Rep.guard (R : Rep T F ρ C σ H) (f : Fresh F ρ C σ p) {u : HO} (h : H p = some u) (no : NoTb u := by intro _ z; cases z) : Rep T (F.guard p u) ρ C σ H := by
  refine ⟨R.c0, R.sub, fun b o k nk hr => ?_, fun b ps k => ?_, R.htb, R.ctab, R.tabs, fun b o k k0 => ?_, R.refd, R.sys, R.len, fun j s hj => ?_, R.apart⟩
  · by_cases e : b = p
    · subst e
      have k : upd F.H0 b u b = some o := k
      rw [upd_same] at k; cases k; exact h
    · have k : upd F.H0 p u b = some o := k
      rw [upd_ne e] at k; exact R.keep b o k nk hr
  · by_cases e : b = p
    · subst e
      have k : upd F.H0 b u b = some (.tbl ps) := k
      rw [upd_same] at k; cases k; exact absurd rfl (no ps)
    · have k : upd F.H0 p u b = some (.tbl ps) := k
      rw [upd_ne e] at k; exact R.tbl b ps k
  · show upd F.H0 p u b = none ∨ _
    rw [upd_ne (ne_of_none k f.core)]; exact R.new b o k k0
  · have hs := R.slot j s hj
    cases s with
    | un => trivial
    | val d => exact hs
    | scr ns => exact hs
    | exc c d => exact hs
    | fnc f c q σc vs => exact hs
    | own r o =>
      obtain ⟨q, a, b, c, d⟩ := hs
      refine ⟨q, a, b, c, ?_⟩
      cases r with
      | true => exact d
      | false =>
        show upd F.H0 p u q = none
        rw [upd_ne (fun e => f.owned j false o hj (by rw [← e]; exact a))]; exact d
theorem Rep.unguard {u : HO} (R : Rep T (F.guard p u) ρ C σ H) (nt : ∀ xs, u ≠ .tup xs) (no : NoTb u) (f0 : F.H0 p = none) (c0 : F.C0 p = none) (hr : ∀ q ∈ F.refs, q.2 ≠ p) : Rep T F ρ C σ H ∧ H p = some u ∧ Fresh F ρ C σ p := by
  have hp : H p = some u := R.keep p u (show upd F.H0 p u p = some u from upd_same) no hr
  have cp : C p = none := by
    cases q : C p with
    | none => rfl
    | some o =>
      rcases R.new p o q c0 with this | ⟨xs, rfl⟩
      · rw [show (F.guard p u).H0 p = some u from upd_same] at this; cases this
      · have := R.sub _ _ q
        rw [hp] at this
        exact absurd (Option.some.inj this) (nt xs)
  have ne : ∀ b o, F.H0 b = some o → b ≠ p := fun b o k e => by rw [e, f0] at k; cases k
  have low : ∀ b, upd F.H0 p u b = none → F.H0 b = none := fun b k => by
    by_cases e : b = p
    · rw [e]; exact f0
    · rw [upd_ne e] at k; exact k
  refine ⟨⟨R.c0, R.sub, fun b o k nk h => R.keep b o (show upd F.H0 p u b = some o by rw [upd_ne (ne b o k)]; exact k) nk h, fun b ps k => R.tbl b ps (show upd F.H0 p u b = some _ by rw [upd_ne (ne b _ k)]; exact k), R.htb, R.ctab, R.tabs, fun b o k k0 => (R.new b o k k0).imp (low b) id, R.refd, R.sys, R.len, fun j s hj => ?_, R.apart⟩, hp, cp, f0, fun j r o hj hv => ?_⟩
  · have hs := R.slot j s hj
    cases s with
    | un => trivial
    | val d => exact hs
    | scr ns => exact hs
    | exc c d => exact hs
    | fnc f c q σc vs => exact hs
    | own r o =>
      obtain ⟨q, a, b, c, d⟩ := hs
      refine ⟨q, a, b, c, ?_⟩
      cases r with
      | true => exact d
      | false => exact low q d
  · obtain ⟨q, a, b, c, d⟩ := R.slot j _ hj
    rw [hv] at a; cases a
    cases r with
    | true => exact hr _ d rfl
    | false =>
      rw [show (F.guard p u).H0 p = some u from upd_same] at d; cases d
theorem Rep.ref_ne (R : Rep T F ρ C σ H) (h : H p = none) : ∀ q ∈ F.refs, q.2 ≠ p := fun q hq e => by
  obtain ⟨o, ho⟩ := R.refd q hq
  rw [e, h] at ho; cases ho
theorem Rep.c0_none (R : Rep T F ρ C σ H) (h : C p = none) : F.C0 p = none := sub_none R.c0 h
end

/-- an expression that makes a new own thing -/
abbrev QF := Ro → (Own → Ro → Prop) → Prop
def liftF (T : PK) (q : QF) : TE := fun σ H Q => ∃ F ρ C, Rep T F ρ C σ H ∧ ∃ κ, q ρ κ ∧ ∀ o ρ' p C' H', κ o ρ' → Same C C' → Rep T F ρ' C' σ H' → OwnAt T C' H' p o → Fresh F ρ' C' σ p → (∀ q ∈ F.refs, q.2 ≠ p) → Q (.ref p) H'
abbrev PQF (τ : Tb) (X : Cx) (e : Expr) (q : QF) : Prop := PE X e (liftF (X.pk τ) q)
section
variable {X : Cx} {τ : Tb} {pos : Pos}
def qfList (q : QA) : QF := fun ρ κ => q ρ fun ds ρ1 => κ (.lst ds) ρ1
theorem qf_list {es : List Expr} {n : Nat} {q : QA} (h : PQN τ X es n q) (hn : n ≤ 1000 := by decide) : PQF τ X (.List es pos) (qfList q) := by
  refine pe_imp _ (pe_lst h) ?_
  rintro σ H Q ⟨F, ρ, C, R, κ, k, z⟩
  refine ⟨F, ρ, C, R, _, k, fun ds ρ1 vs C1 H1 k1 s1 R1 d1 hl => ⟨?_, fun p np => ?_⟩⟩
  · rw [d1.length, hl]; exact Nat.le_trans hn (by rw [sizeLine_eq]; decide)
  · exact z _ _ _ _ _ k1 s1 (R1.layH np) ⟨vs, upd_same, d1⟩ (R1.new_fresh np) (R1.ref_ne np)
def qfDict : QF := fun ρ κ => κ (.dic []) ρ
theorem qf_dict : PQF τ X (.Dict [] [] pos) qfDict := by
  refine pe_imp _ pe_dnewK ?_
  rintro σ H Q ⟨F, ρ, C, R, κ, k, z⟩ p np
  exact z _ _ _ _ _ k (same_refl _) (R.layH np) ⟨[], upd_same, rfl, .nil⟩ (R.new_fresh np) (R.ref_ne np)
end

/-! ### statements -/
section
variable {X : Cx} {τ : Tb} {st : Stmt} {rest : List Stmt} {t u : QS} {e : Expr} {q : QE} {pos : Pos}
def qNext : QS := fun κ ρ => κ.nx ρ
def qSeq (t u : QS) : QS := fun κ ρ => t { κ with nx := u κ } ρ
theorem qss_nil : PQSs τ X [] qNext := by
  refine pss_imp _ pss_nil ?_
  rintro D σ H ⟨F, ρ, C, R, κ, k, z, _⟩
  exact z _ _ _ _ k (same_refl _) R
theorem qss_cons (h1 : PQS τ X st t) (h2 : PQSs τ X rest u) : PQSs τ X (st :: rest) (qSeq t u) := by
  refine pss_imp _ (pss_cons h1 h2) ?_
  rintro D σ H ⟨F, ρ, C, R, κ, k, z1, z2, z3, z4⟩
  exact ⟨F, ρ, C, R, _, k, fun ρ1 C1 σ1 H1 k1 s1 R1 => ⟨F, ρ1, C1, R1, κ, k1, fun ρ2 C2 σ2 H2 k2 s2 R2 => z1 _ _ _ _ k2 (same_trans s1 s2) R2, fun d ρ2 v C2 σ2 H2 k2 s2 R2 d2 => z2 _ _ _ _ _ _ k2 (same_trans s1 s2) R2 d2,
    fun ρ2 C2 σ2 H2 k2 s2 R2 => z3 _ _ _ _ k2 (same_trans s1 s2) R2, fun ρ2 C2 σ2 H2 k2 s2 R2 => z4 _ _ _ _ k2 (same_trans s1 s2) R2⟩, z2, z3, z4⟩
theorem qss_one (h1 : PQS τ X st t) : PQSs τ X [st] t := pss_one h1
def qDrop (q : QE) : QS := fun κ ρ => q ρ fun _ ρ1 => κ.nx ρ1
theorem qs_expr (h : PQ τ X e q) (hs : swapsWith e none pos.line X.env = pure false := by rfl) : PQS τ X (.Expr e pos) (qDrop q) := by
  refine ps_imp _ (ps_expr h hs) ?_
  rintro D σ H ⟨F, ρ, C, R, κ, k, z, _⟩
  exact ⟨F, ρ, C, R, _, k, fun d ρ1 v C1 H1 k1 s1 R1 d1 => z _ _ _ _ k1 s1 R1⟩
def qRet (q : QE) : QS := fun κ ρ => q ρ κ.rt
theorem qs_ret (h : PQ τ X e q) : PQS τ X (.Return (some e) pos) (qRet q) := by
  refine ps_imp _ (ps_ret h) ?_
  rintro D σ H ⟨F, ρ, C, R, κ, k, _, z, _⟩
  exact ⟨F, ρ, C, R, _, k, fun d ρ1 v C1 H1 k1 s1 R1 d1 => z _ _ _ _ _ _ k1 s1 R1 d1⟩
def qBreak : QS := fun κ ρ => κ.bk ρ
def qCont : QS := fun κ ρ => κ.ct ρ
theorem qs_pass : PQS τ X (.Pass pos) qNext := by
  refine ps_imp _ ps_pass ?_
  rintro D σ H ⟨F, ρ, C, R, κ, k, z, _⟩
  exact z _ _ _ _ k (same_refl _) R
theorem qs_continue : PQS τ X (.Continue pos) qCont := by
  refine ps_imp _ ps_continue ?_
  rintro D σ H ⟨F, ρ, C, R, κ, k, _, _, _, z⟩
  exact z _ _ _ _ k (same_refl _) R
theorem qs_break : PQS τ X (.Break pos) qBreak := by
  refine ps_imp _ ps_break ?_
  rintro D σ H ⟨F, ρ, C, R, κ, k, _, _, z, _⟩
  exact z _ _ _ _ k (same_refl _) R
def qIfS (c : QT) (t u : QS) : QS := fun κ ρ => c ρ fun b ρ1 => yn b (t κ ρ1) (u κ ρ1)
theorem qs_if {c : Expr} {a b : List Stmt} {qc : QT} (hc : PQT τ X c qc) (ha : PQSs τ X a t) (hb : PQSs τ X b u) : PQS τ X (.If c a b pos) (qIfS qc t u) := by
  refine ps_imp _ (ps_if hc ha hb) ?_
  rintro D σ H ⟨F, ρ, C, R, κ, k, z1, z2, z3, z4⟩
  refine ⟨F, ρ, C, R, _, k, fun b ρ1 C1 H1 k1 s1 R1 => ?_⟩
  have go : ∀ {w : QS}, w κ ρ1 → liftS (X.pk τ) w D σ H1 := fun {w} k1 => ⟨F, ρ1, C1, R1, κ, k1, fun ρ2 C2 σ2 H2 k2 s2 R2 => z1 _ _ _ _ k2 (same_trans s1 s2) R2, fun d ρ2 v C2 σ2 H2 k2 s2 R2 d2 => z2 _ _ _ _ _ _ k2 (same_trans s1 s2) R2 d2,
    fun ρ2 C2 σ2 H2 k2 s2 R2 => z3 _ _ _ _ k2 (same_trans s1 s2) R2, fun ρ2 C2 σ2 H2 k2 s2 R2 => z4 _ _ _ _ k2 (same_trans s1 s2) R2⟩
  cases b with
  | true => exact go k1
  | false => exact go k1
def qSet (i : Nat) (q : QE) : QS := fun κ ρ => q ρ fun d ρ1 => κ.nx (ρ1.set i (.val d))
theorem set_imp {i : Nat} : ∀ D σ H, liftS (X.pk τ) (qSet i q) D σ H → tAsg (liftE (X.pk τ) q) (gName i) D σ H := by
  rintro D σ H ⟨F, ρ, C, R, κ, k, z, _⟩
  exact ⟨F, ρ, C, R, _, k, fun d ρ1 v C1 H1 k1 s1 R1 d1 => z _ _ _ _ k1 s1 (R1.setVal d1)⟩
theorem qs_set {i : Nat} {x : Str} {pos' : Pos} (hN : X.N.Nodup) (hi : X.N[i]? = some x) (hx : Loc X.env.scope x) (h : PQ τ X e q) (hs : swapsWith e (some (.Name x pos')) pos.line X.env = pure false := by rfl) (hf : X.fn x = true ∨ X.env.scope.names.lookup x = some .local := by first | exact .inl rfl | exact .inr rfl | assumption) :
    PQS τ X (.Assign [.Name x pos'] e pos) (qSet i q) := ps_imp _ (ps_set hN hi hx h hs hf) set_imp
def qSetO (i : Nat) (q : QF) : QS := fun κ ρ => q ρ fun o ρ1 => κ.nx (ρ1.set i (.own false o))
theorem setO_imp {i : Nat} {q : QF} : ∀ D σ H, liftS (X.pk τ) (qSetO i q) D σ H → tAsg (liftF (X.pk τ) q) (gName i) D σ H := by
  rintro D σ H ⟨F, ρ, C, R, κ, k, z, _⟩
  refine ⟨F, ρ, C, R, _, k, fun o ρ1 p C1 H1 k1 s1 R1 w1 f1 _ => z _ _ _ _ k1 s1 ?_⟩
  exact R1.setOwn f1.core f1.start w1 fun j r' o' _ hj hv => f1.owned j r' o' hj hv
theorem qs_setO {i : Nat} {x : Str} {q : QF} {pos' : Pos} (hN : X.N.Nodup) (hi : X.N[i]? = some x) (hx : Loc X.env.scope x) (h : PQF τ X e q) (hs : swapsWith e (some (.Name x pos')) pos.line X.env = pure false := by rfl) (hf : X.fn x = true ∨ X.env.scope.names.lookup x = some .local := by first | exact .inl rfl | exact .inr rfl | assumption) :
    PQS τ X (.Assign [.Name x pos'] e pos) (qSetO i q) := ps_imp _ (ps_set hN hi hx h hs hf) setO_imp

/-! ### targets -/
/-- storing data -/
abbrev QG := PyData → Ro → (Ro → Prop) → Prop
def liftG (T : PK) (g : QG) : TG := fun v σ H Q => ∃ F ρ C d, Rep T F ρ C σ H ∧ Da T.w C v d ∧ ∃ κ, g d ρ κ ∧ ∀ ρ' C' σ' H', κ ρ' → Same C C' → Rep T F ρ' C' σ' H' → Q σ' H'
abbrev PQG (τ : Tb) (X : Cx) (e : Expr) (g : QG) : Prop := PG X e (liftG (X.pk τ) g)
theorem pg_imp {t t' : TG} (p : PG X e t) (h : ∀ v σ H Q, t' v σ H Q → t v σ H Q) : PG X e t' := ⟨fun pins s σ H v u Q I r q => p.run pins s σ H v u Q I r (h _ _ _ _ q)⟩
def gN (i : Nat) : QG := fun d ρ κ => κ (ρ.set i (.val d))
theorem qg_name {i : Nat} {x : Str} (hN : X.N.Nodup) (hi : X.N[i]? = some x) (hx : Loc X.env.scope x) (hf : X.fn x = true ∨ X.env.scope.names.lookup x = some .local := by first | exact .inl rfl | exact .inr rfl | assumption) : PQG τ X (.Name x pos) (gN i) := by
  refine pg_imp (pg_name hN hi hx hf) ?_
  rintro v σ H Q ⟨F, ρ, C, d, R, hd, κ, k, z⟩
  exact z _ _ _ _ k (same_refl _) (R.setVal hd)
abbrev QGs := List PyData → Ro → (Ro → Prop) → Prop
def liftGs (T : PK) (g : QGs) : TGs := fun vs σ H Q => ∃ F ρ C ds, Rep T F ρ C σ H ∧ DaAll T.w C vs ds ∧ ∃ κ, g ds ρ κ ∧ ∀ ρ' C' σ' H', κ ρ' → Same C C' → Rep T F ρ' C' σ' H' → Q σ' H'
abbrev PQGs (τ : Tb) (X : Cx) (es : List Expr) (g : QGs) : Prop := PGs X es (liftGs (X.pk τ) g)
theorem pgs_imp {es : List Expr} {t t' : TGs} (p : PGs X es t) (h : ∀ v σ H Q, t' v σ H Q → t v σ H Q) : PGs X es t' := ⟨fun pins s σ H v u Q I r q => p.run pins s σ H v u Q I r (h _ _ _ _ q)⟩
def gsNil : QGs := fun ds ρ κ => match ds with
  | [] => κ ρ
  | _ => False
def gsCons (g : QG) (r : QGs) : QGs := fun ds ρ κ => match ds with
  | d :: ds => g d ρ fun ρ1 => r ds ρ1 κ
  | [] => False
theorem qgs_nil : PQGs τ X [] gsNil := by
  refine pgs_imp pgs_nil ?_
  rintro vs σ H Q ⟨F, ρ, C, ds, R, hd, κ, k, z⟩
  cases hd with
  | nil => exact ⟨rfl, z _ _ _ _ k (same_refl _) R⟩
  | cons => exact False.elim k
theorem qgs_cons {es : List Expr} {g : QG} {r : QGs} (h1 : PQG τ X e g) (h2 : PQGs τ X es r) (hs : (assignEach (e :: es) X.env).map (·.2) = assign e X.env :: (assignEach es X.env).map (·.2) := by rfl) : PQGs τ X (e :: es) (gsCons g r) := by
  refine pgs_imp (pgs_cons h1 h2 hs) ?_
  rintro vs σ H Q ⟨F, ρ, C, ds, R, hd, κ, k, z⟩
  cases hd with
  | nil => exact False.elim k
  | cons a t =>
    exact ⟨_, _, rfl, F, ρ, C, _, R, a, _, k, fun ρ1 C1 σ1 H1 k1 s1 R1 => ⟨F, ρ1, C1, _, R1, t.mono s1, κ, k1, fun ρ2 C2 σ2 H2 k2 s2 R2 => z _ _ _ _ k2 (same_trans s1 s2) R2⟩⟩
def gTup' (g : QGs) : QG := fun d ρ κ => match d with
  | .tuple ds => g ds ρ κ
  | _ => False
theorem gs_len : ∀ {es : List Expr} {g : QGs}, True := trivial
/-- the targets want so many items -/
structure GLen (g : QGs) (n : Nat) : Prop where
  len : ∀ ds ρ κ, g ds ρ κ → ds.length = n
theorem glen_nil : GLen gsNil 0 := ⟨fun ds ρ κ h => by cases ds with | nil => rfl | cons => exact False.elim h⟩
theorem glen_name {i : Nat} {r : QGs} {n : Nat} (h : GLen r n) : GLen (gsCons (gN i) r) (n + 1) := ⟨fun ds ρ κ k => by
  cases ds with
  | nil => exact False.elim k
  | cons d ds => rw [List.length_cons, h.len ds _ _ k]⟩
theorem qg_tup {es : List Expr} {k : Nat} {g : QGs} {n : Nat} (hc : X.calm = true) (h : PQGs τ X es g) (gl : GLen g n) (hn : (assignEach es X.env).length = n := by rfl) (hst : (assignEach es X.env).findIdx? (·.1) = none := by rfl) : PQG τ X (.Tuple es k pos) (gTup' g) := by
  refine pg_imp (pg_tup hc h hn hst) ?_
  rintro v σ H Q ⟨F, ρ, C, d, R, hd, κ, k, z⟩
  cases hd with
  | tup e _ ha => exact ⟨_, _, rfl, sqF (R.sub _ _ e), by rw [ha.length]; exact gl.len _ _ _ k, F, ρ, C, _, R, ha, κ, k, z⟩
  | _ => exact False.elim k
def qAsg (q : QE) (g : QG) : QS := fun κ ρ => q ρ fun d ρ1 => g d ρ1 κ.nx
theorem qs_asg {tg : Expr} {g : QG} (h : PQ τ X e q) (hg : PQG τ X tg g) (hs : swapsWithSole [tg] e pos.line X.env = pure false := by rfl) (hw : swappedStores [tg] e X.env = pure none := by rfl) (h1 : (assignEach [tg] X.env).map (·.2) = [assign tg X.env] := by rfl) : PQS τ X (.Assign [tg] e pos) (qAsg q g) := by
  refine ps_imp _ (ps_asg h hg hs hw h1) ?_
  rintro D σ H ⟨F, ρ, C, R, κ, k, z, _⟩
  exact ⟨F, ρ, C, R, _, k, fun d ρ1 v C1 H1 k1 s1 R1 d1 => ⟨F, ρ1, C1, d, R1, d1, κ.nx, k1, fun ρ2 C2 σ2 H2 k2 s2 R2 => z _ _ _ _ k2 (same_trans s1 s2) R2⟩⟩
end

/-! ### loops -/
section
variable {X : Cx} {τ : Tb} {pos : Pos}
def qWhile (c : QT) (tb : QS) : QS := fun κ ρ => ∃ W : Nat → Ro → Prop, (∃ m, W m ρ) ∧ ∀ m ρ, W m ρ →
  c ρ fun b ρ1 => yn b (∃ N : Ro → Prop, (∀ ρ', N ρ' → ∃ m', m' < m ∧ W m' ρ') ∧ tb { κ with nx := N, ct := N, bk := κ.nx } ρ1) (κ.nx ρ1)
theorem qs_while {c : Expr} {body : List Stmt} {qc : QT} {tb : QS} (hp : PassesOwn (model X.prog X.w) X.A X.env X.xe) (hc : PQT τ X c qc) (hb : PQSs τ X body tb) : PQS τ X (.While c body [] pos) (qWhile qc tb) := by
  refine ps_imp _ (ps_while hp hc hb) ?_
  rintro D σ H ⟨F, ρ, C, R, κ, ⟨W, ⟨m, w⟩, turn⟩, z1, z2, z3, z4⟩
  refine ⟨fun m σ H => ∃ ρ1 C1, Same C C1 ∧ Rep (X.pk τ) F ρ1 C1 σ H ∧ W m ρ1, ⟨m, ρ, C, same_refl _, R, w⟩, ?_⟩
  rintro m σ H ⟨ρ1, C1, s1, R1, w1⟩
  refine ⟨F, ρ1, C1, R1, _, turn m ρ1 w1, fun b ρ2 C2 H2 k2 s2 R2 => ?_⟩
  have s12 := same_trans s1 s2
  cases b with
  | false => exact z1 _ _ _ _ k2 s12 R2
  | true =>
    obtain ⟨N, hN, k2⟩ := k2
    refine ⟨fun σ' H' => ∃ ρ3 C3, Same C C3 ∧ Rep (X.pk τ) F ρ3 C3 σ' H' ∧ N ρ3, ?_, F, ρ2, C2, R2, _, k2, ?_, ?_, ?_, ?_⟩
    · rintro σ' H' ⟨ρ3, C3, s3, R3, n3⟩
      obtain ⟨m', hm, w3⟩ := hN ρ3 n3
      exact ⟨m', hm, ρ3, C3, s3, R3, w3⟩
    · exact fun ρ3 C3 σ3 H3 k3 s3 R3 => ⟨ρ3, C3, same_trans s12 s3, R3, k3⟩
    · exact fun d ρ3 v C3 σ3 H3 k3 s3 R3 d3 => z2 _ _ _ _ _ _ k3 (same_trans s12 s3) R3 d3
    · exact fun ρ3 C3 σ3 H3 k3 s3 R3 => z1 _ _ _ _ k3 (same_trans s12 s3) R3
    · exact fun ρ3 C3 σ3 H3 k3 s3 R3 => ⟨ρ3, C3, same_trans s12 s3, R3, k3⟩
/-- over a list of things -/
def forL (g : QG) (tb : QS) (κ : Qn) : List PyData → Ro → Prop
  | [], ρ => κ.nx ρ
  | d :: ds, ρ => ∃ N : Ro → Prop, (∀ ρ', N ρ' → forL g tb κ ds ρ') ∧ g d ρ fun ρ1 => tb { κ with nx := N, ct := N, bk := κ.nx } ρ1
theorem forL_by {g : QG} {tb : QS} {κ : Qn} (I : List PyData → Ro → Prop) (h0 : ∀ ρ, I [] ρ → κ.nx ρ) (hs : ∀ d ds ρ, I (d :: ds) ρ → g d ρ fun ρ1 => tb { κ with nx := I ds, ct := I ds, bk := κ.nx } ρ1) : ∀ ds ρ, I ds ρ → forL g tb κ ds ρ
  | [], ρ, h => h0 ρ h
  | d :: ds, ρ, h => ⟨I ds, fun ρ' h' => forL_by I h0 hs ds ρ' h', hs d ds ρ h⟩
/-- what is walked: its items -/
abbrev QI := Ro → (List PyData → Ro → Prop) → Prop
/-- an iterator J that goes through ds -/
structure Walks (T : PK) (J : It) (C : Hp) (ds : List PyData) : Prop where
  go : ∀ (i : Nat) (C' H : Hp), Same C C' → Same C' H → i < ds.length → J.go i H
  yld : ∀ (i : Nat) (F : Fm) (ρ : Ro) (C' : Hp) (σ : St) (H : Hp) (x : V) (H' : Hp), Rep T F ρ C' σ H → Same C C' → J.yld i H x H' → i < ds.length → ∃ d C2, ds[i]? = some d ∧ Same C' C2 ∧ Rep T F ρ C2 σ H' ∧ Da T.w C2 x d
  stop : ∀ (i : Nat) (C' H : Hp), Same C C' → Same C' H → ds.length ≤ i → J.stop i H
  few : ds.length ≤ sizeLine
def liftI (T : PK) (q : QI) : TI := fun σ H R => ∃ F ρ C, Rep T F ρ C σ H ∧ ∃ κ, q ρ κ ∧ ∀ ds ρ' C' H' J, κ ds ρ' → Same C C' → Rep T F ρ' C' σ H' → Walks T J C' ds → R J H'
abbrev PQI (τ : Tb) (X : Cx) (tg iter : Expr) (q : QI) : Prop := PI X tg iter (liftI (X.pk τ) q)
theorem pi_imp {tg iter : Expr} {t t' : TI} (p : PI X tg iter t) (h : ∀ σ H R, t' σ H R → t σ H R) : PI X tg iter t' := ⟨fun pins s σ H R I q => p.run pins s σ H R I (h _ _ _ q)⟩
def qFor (qi : QI) (g : QG) (tb : QS) : QS := fun κ ρ => qi ρ fun ds ρ1 => forL g tb κ ds ρ1
theorem qs_for {tg iter : Expr} {body : List Stmt} {qi : QI} {g : QG} {tb : QS} (hp : PassesOwn (model X.prog X.w) X.A X.env X.xe) (hc : X.calm = true) (hi : PQI τ X tg iter qi) (hg : PQG τ X tg g) (hb : PQSs τ X body tb)
    (hs : ∀ x, foldedSetIterable iter X.env x = pure x := by intro _; rfl) : PQS τ X (.For tg iter body [] pos) (qFor qi g tb) := by
  refine ps_imp _ (ps_for hp hc hi hg hb hs) ?_
  rintro D σ H ⟨F, ρ, C, R, κ, k, z1, z2, z3, z4⟩
  refine ⟨F, ρ, C, R, _, k, fun ds ρ1 C1 H1 J k1 s1 R1 wk => ?_⟩
  refine ⟨fun i m σ' H' => m + i = ds.length ∧ ∃ ρ2 C2, Same C1 C2 ∧ Rep (X.pk τ) F ρ2 C2 σ' H' ∧ forL g tb κ (ds.drop i) ρ2, ⟨ds.length, rfl, ρ1, C1, same_refl _, R1, k1⟩, ?_⟩
  rintro i m σ' H' ⟨hm, ρ2, C2, s2, R2, k2⟩
  by_cases lt : i < ds.length
  · have hd : ds.drop i = ds[i]'(by omega) :: ds.drop (i + 1) := List.drop_eq_getElem_cons (by omega)
    rw [hd] at k2
    obtain ⟨N, hN, k2⟩ := k2
    refine .inr ⟨wk.go i C2 H' s2 R2.sub lt, fun σ3 H3 => ∃ ρ3 C3, Same C1 C3 ∧ Rep (X.pk τ) F ρ3 C3 σ3 H3 ∧ N ρ3, ?_, ?_⟩
    · rintro σ3 H3 ⟨ρ3, C3, s3, R3, n3⟩
      exact ⟨m - 1, by omega, by omega, ρ3, C3, s3, R3, hN ρ3 n3⟩
    · intro x H3 hy
      obtain ⟨d, C3, hd1, s3, R3, hd2⟩ := wk.yld i F ρ2 C2 σ' H' x H3 R2 s2 hy lt
      have : ds[i]'(by omega) = d := by
        rw [List.getElem?_eq_getElem (by omega)] at hd1; exact Option.some.inj hd1
      rw [this] at k2
      refine ⟨F, ρ2, C3, d, R3, hd2, _, k2, fun ρ4 C4 σ4 H4 k4 s4 R4 => ?_⟩
      have s24 := same_trans s2 (same_trans s3 s4)
      refine ⟨F, ρ4, C4, R4, _, k4, ?_, ?_, ?_, ?_⟩
      · exact fun ρ5 C5 σ5 H5 k5 s5 R5 => ⟨ρ5, C5, same_trans s24 s5, R5, k5⟩
      · exact fun e ρ5 v C5 σ5 H5 k5 s5 R5 d5 => z2 _ _ _ _ _ _ k5 (same_trans s1 (same_trans s24 s5)) R5 d5
      · exact fun ρ5 C5 σ5 H5 k5 s5 R5 => z1 _ _ _ _ k5 (same_trans s1 (same_trans s24 s5)) R5
      · exact fun ρ5 C5 σ5 H5 k5 s5 R5 => ⟨ρ5, C5, same_trans s24 s5, R5, k5⟩
  · have e : i = ds.length := by omega
    refine .inl ⟨wk.stop i C2 H' s2 R2.sub (by omega), ?_⟩
    rw [List.drop_eq_nil_of_le (by omega)] at k2
    exact z1 _ _ _ _ k2 (same_trans s1 s2) R2
/-! ### what is walked -/
def signs (x : Str) : List PyData := x.cps.toList.map fun c => .str ⟨#[c]⟩
def qIt (q : QE) : QI := fun ρ κ => q ρ fun d ρ1 => match d with
  | .list ds => κ ds ρ1
  | .tuple ds => κ ds ρ1
  | .str x => x.length ≤ 16000000 ∧ κ (signs x) ρ1
  | .dict kvs => κ (kvs.map (·.1)) ρ1
  | _ => False
/-- the keys of a dict whose keys are tuples of texts -/
def Itz (d : Addr) (o : Obj) (u : HO) (zs : List (List Str × Addr × V)) : It :=
  ⟨fun i G => G d = some (.frz o u) ∧ i < zs.length, fun i G y G' => G' = G ∧ ∃ z, zs[i]? = some z ∧ y = .ref z.2.1, fun i G => G d = some (.frz o u) ∧ zs.length ≤ i⟩
theorem DT.entry {w : World} {d : Addr} {o : Obj} {zs : List (List Str × Addr × V)} (t : DT w d o zs) : ∃ (es : Array DictEntry) (ep : Nat), o.data = .dict es ep ∧ es.size = zs.length ∧ ∀ (i : Nat) (z : List Str × Addr × V), zs[i]? = some z → ∃ en : DictEntry, es[i]? = some en ∧ en.key = .ref z.2.1 := by
  obtain ⟨es, ep, xs, h1, pr, h3⟩ := t.ents
  have l1 : zs.length = xs.length := Paired.length pr
  have l2 : es.size = xs.length := by rw [← Array.length_toList, h3, List.length_map]
  refine ⟨es, ep, h1, by omega, fun i z hz => ?_⟩
  obtain ⟨b, hb, e1, e2, _⟩ := paired_get pr hz
  refine ⟨⟨tHash w b.1, .ref b.2.1, b.2.2⟩, ?_, by rw [← e2]⟩
  rw [← Array.getElem?_toList, h3, List.getElem?_map, hb]; rfl
theorem turnZ {P : Program} {w v : World} {K : PySem.W.Frag} {tg : Expr} {d : Addr} {o : Obj} {u : HO} {zs : List (List Str × Addr × V)} {es : Array DictEntry} {ep : Nat} (t : DT v d o zs) (j : Addr) (data : o.data = .dict es ep) : Turn P w K tg (Itz d o u zs) [j] j (fun i h => h.IsKeyIter j d i zs.length ep) where
  mem := List.mem_cons_self
  obj := fun i h st b hb => by
    cases List.mem_singleton.mp hb
    obtain ⟨oj, e, _, dd⟩ := st
    exact ⟨oj, e, fun _ z => by rw [dd] at z; cases z⟩
  keep := fun i h h' st kp => st.at fun oj e => kp j List.mem_cons_self oj e
  item := by
    intro X hP hw hK hc i pins s σ G E I hf st go
    subst hP hw hK
    obtain ⟨g0, g1, _, g3, g4, g5⟩ := hf j List.mem_cons_self
    obtain ⟨es', ep', hdt, hsz, ent⟩ := t.entry
    obtain ⟨rfl, rfl⟩ := dict_ep data hdt
    have lt : i < zs.length := go.2
    obtain ⟨zi, hz⟩ : ∃ zi, zs[i]? = some zi := ⟨zs[i], List.getElem?_eq_getElem lt⟩
    obtain ⟨en, hen, hkey⟩ := ent i _ hz
    refine next_key_item st (I.hok d _ go.1).1 hdt hsz hen fun h' st' sb => ?_
    have J : Inv X pins σ G { s with heap := h' } := I.turned (t' := s.toks) (fun b _ nb e => (sb.2 b nb).trans e) g0 g1 g3 g4 g5
    obtain ⟨oj, e, c, dd⟩ := id st'
    exact ⟨en.key, rfl, go_of (s := { s with heap := h' }) e c dd (by decide) ⟨.ref zi.2.1, G, J, hkey, ⟨rfl, _, hz, rfl⟩, st', fun b hb => (hf b hb).1⟩⟩
  done := by
    intro X hP hw hK hc i pins s σ G E I hf st stop
    subst hP hw hK
    obtain ⟨g0, g1, _, g3, g4, g5⟩ := hf j List.mem_cons_self
    obtain ⟨es', ep', hdt, hsz, _⟩ := t.entry
    obtain ⟨rfl, rfl⟩ := dict_ep data hdt
    exact next_key_end (I.ok.hd hc) st (I.hok d _ stop.1).1 hdt hsz stop.2 fun h' eb => ⟨rfl, I.turned (t' := s.toks) (fun b _ nb e => eb b _ nb e) g0 g1 g3 g4 g5⟩
  self := fun A i s Q E st h => wpAny_pyIter_keyiter st h
/-- a list, a tuple, a text, the keys of a locked dict -/
def iAny (K : PySem.W.Frag) (tl : TE) : TI := fun σ H R => tl σ H fun x H1 => (∃ a xs, x = .ref a ∧ SqL K H1 a xs ∧ (xs.length ≤ sizeLine → R (Itl K a) H1)) ∨ (∃ a xs, x = .ref a ∧ SqT K H1 a xs ∧ (xs.length ≤ sizeLine → R (Itt K a) H1)) ∨ (∃ y, x = .str y ∧ R (Its y) H1) ∨
  (∃ d o kvs, x = .ref d ∧ H1 d = some (.frz o (.dK kvs)) ∧ (kvs.length ≤ sizeLine → R (Itk d o kvs) H1)) ∨ ∃ v d o u zs, x = .ref d ∧ H1 d = some (.frz o u) ∧ DT v d o zs ∧ R (Itz d o u zs) H1
theorem pi_any {tg l : Expr} {tl : TE} (hl : PE X l tl) : PI X tg l (iAny X.K tl) := by
  refine ⟨fun pins s σ H R I h => thn (hl.run pins s σ H _ I h) fun v s1 g => ?_⟩
  obtain ⟨x, H1, I1, r1, g⟩ := g
  have grow : ∀ (ob : Obj), Inv X pins σ H1 { s1 with heap := s1.heap.push ob, toks := s1.toks } := fun ob => I1.kept fun _ _ e => Heap.get?_push_of_some _ e
  have alone : ∀ b ∈ [s1.heap.objs.size], FpOk X pins H1 b := fun b hb => by
    rw [List.mem_singleton.mp hb]; exact I1.fpOk (Nat.le_refl _) (I1.hok.fresh (Nat.le_refl _))
  rcases g with ⟨a, xs, rfl, sq, q⟩ | ⟨a, xs, rfl, sq, q⟩ | ⟨y, rfl, q⟩ | ⟨d, o, kvs, rfl, fd, q⟩ | ⟨w', d, o, u, zs, rfl, fd, dt, q⟩
  · obtain rfl : v = Value.ref a := r1
    obtain ⟨us, _, pl, z⟩ := I1.list sq
    exact wpAny_pyIter_list pl.isList ⟨_, _, _, _, H1, rfl, grow _, turn_list a _, ⟨_, Heap.get?_push_size _ rfl, rfl, rfl⟩, alone, q z⟩
  · obtain rfl : v = Value.ref a := r1
    obtain ⟨us, _, pl, z⟩ := I1.tuple sq
    exact wpAny_pyIter_tuple (show s1.heap.IsTuple a us.toArray from pl) ⟨_, _, _, _, H1, rfl, grow _, turn_tuple a _, ⟨_, Heap.get?_push_size _ rfl, rfl, rfl⟩, alone, q z⟩
  · obtain ⟨t, rfl⟩ := r1
    rcases wide : y.cps.all (· < 128) with _ | _
    · exact wpAny_pyIter_wide wide (pi_one (tk := s1.toks) I1 _ (turn_str _ y t "str_iterator" (.inr rfl)) ⟨_, Heap.get?_push_size _ rfl, rfl, rfl⟩ q)
    · exact wpAny_pyIter_ascii wide (pi_one (tk := s1.toks) I1 _ (turn_str _ y t "str_ascii_iterator" (.inl rfl)) ⟨_, Heap.get?_push_size _ rfl, rfl, rfl⟩ q)
  · obtain rfl : v = Value.ref d := r1
    obtain ⟨hs, hgd, hx, es, ep, vs, hdt, hsz, kv, hm⟩ := I1.frzK fd
    have it : (s1.heap.push { cls := .type "dict_keyiterator", data := .fields #[.ref d, .int 0 0, .int es.size 0, .int ep 0] }).IsKeyIter s1.heap.objs.size d 0 kvs.length ep := ⟨_, Heap.get?_push_size _ rfl, rfl, by rw [hsz] <;> rfl⟩
    exact iter_keys hs hgd hx hdt (pi_one (tk := s1.toks) I1 _ (turn_keys _ hdt) it (q (I1.hok d _ fd).2.1))
  · obtain rfl : v = Value.ref d := r1
    obtain ⟨es, ep, hdt, hsz, _⟩ := dt.entry
    have it : (s1.heap.push { cls := .type "dict_keyiterator", data := .fields #[.ref d, .int 0 0, .int es.size 0, .int ep 0] }).IsKeyIter s1.heap.objs.size d 0 zs.length ep := ⟨_, Heap.get?_push_size _ rfl, rfl, by rw [hsz] <;> rfl⟩
    exact iter_keys dt.sys (I1.hok d _ fd).1 dt.ex hdt (pi_one (tk := s1.toks) I1 _ (turnZ dt _ hdt) it q)
theorem walks_seq {T : PK} {J : It} {C : Hp} {vs : List V} {ds : List PyData} (hd : DaAll T.w C vs ds) (hz : vs.length ≤ sizeLine) (go : ∀ (i : Nat) (C' H : Hp), Same C C' → Same C' H → i < vs.length → J.go i H)
    (yld : ∀ (i : Nat) (C' H : Hp) (x : V) (H' : Hp), Same C C' → Same C' H → J.yld i H x H' → H' = H ∧ vs[i]? = some x) (stop : ∀ (i : Nat) (C' H : Hp), Same C C' → Same C' H → vs.length ≤ i → J.stop i H) : Walks T J C ds := by
  have hl := hd.length
  refine ⟨fun i C' H a b c => go i C' H a b (by omega), fun i F ρ C' σ H x H' R s hy lt => ?_, fun i C' H a b c => stop i C' H a b (by omega), by omega⟩
  obtain ⟨rfl, hx⟩ := yld i C' H x H' s R.sub hy
  obtain ⟨d, a, b⟩ := (hd.mono s).get hx
  exact ⟨d, C', a, same_refl _, R, b⟩
theorem keys_da {C : Hp} (k : Key) : Da w C (kV k) (keyD k) := by cases k with
  | inl i => exact .int i
  | inr x => exact .str x
theorem keys_all {C : Hp} : ∀ ks : List Key, DaAll w C (ks.map kV) (ks.map keyD)
  | [] => .nil
  | k :: ks => .cons (keys_da k) (keys_all ks)
theorem da_strs0 {w : World} {C : Hp} : ∀ r : List Str, DaAll w C (r.map V.str) (r.map PyData.str)
  | [] => .nil
  | x :: r => .cons (.str x) (da_strs0 r)
theorem it_imp {q : QE} : ∀ σ H R, liftI (X.pk τ) (qIt q) σ H R → iAny X.K (liftE (X.pk τ) q) σ H R := by
  rintro σ H R ⟨F, ρ, C, R0, κ, k, z⟩
  refine ⟨F, ρ, C, R0, _, k, fun d ρ1 v C1 H1 k1 s1 R1 d1 => ?_⟩
  cases d1 with
  | @lst a xs ds e n ha =>
    refine .inl ⟨a, xs, rfl, SqL.of (R1.sub _ _ e), fun hz => z ds ρ1 C1 H1 _ k1 s1 R1 (walks_seq ha hz ?_ ?_ ?_)⟩
    · exact fun i C' H s s' lt => ⟨xs, xs[i], SqL.of (s' _ _ (s _ _ e)), List.getElem?_eq_getElem lt⟩
    · exact fun i C' H x H' s s' ⟨e1, y⟩ => ⟨e1, y xs (SqL.of (s' _ _ (s _ _ e)))⟩
    · exact fun i C' H s s' le => ⟨xs, SqL.of (s' _ _ (s _ _ e)), le⟩
  | @tup a o xs ds e nd ha =>
    refine .inr (.inl ⟨a, xs, rfl, sqF (R1.sub _ _ e), fun hz => z ds ρ1 C1 H1 _ k1 s1 R1 (walks_seq ha hz ?_ ?_ ?_)⟩)
    · exact fun i C' H s s' lt => ⟨xs, xs[i], sqF (s' _ _ (s _ _ e)), List.getElem?_eq_getElem lt⟩
    · exact fun i C' H x H' s s' ⟨e1, y⟩ => ⟨e1, y xs (sqF (s' _ _ (s _ _ e)))⟩
    · exact fun i C' H s s' le => ⟨xs, sqF (s' _ _ (s _ _ e)), le⟩
  | str x =>
    refine .inr (.inr (.inl ⟨x, rfl, z _ ρ1 C1 H1 _ k1.2 s1 R1 ⟨fun i C' H s s' lt => ?_, fun i F ρ C' σ H y H' R s hy lt => ?_, fun i C' H s s' le => ?_, ?_⟩⟩))
    · show i < x.cps.size
      simpa [signs] using lt
    · obtain ⟨rfl, c, hc, rfl⟩ := hy
      refine ⟨.str ⟨#[c]⟩, C', ?_, same_refl _, R, .str _⟩
      rw [signs, List.getElem?_map, Array.getElem?_toList, hc]; rfl
    · show x.cps.size ≤ i
      simpa [signs] using le
    · have := line_le k1.1
      simpa [signs, Str.length] using this
  | @dic a o kvs es e hk ha =>
    have hl : kvs.length = es.length := by simpa using congrArg List.length hk
    refine .inr (.inr (.inr (.inl ⟨a, o, kvs, rfl, R1.sub _ _ e, fun hz => z _ ρ1 C1 H1 _ k1 s1 R1 ⟨fun i C' H s s' lt => ?_, fun i F ρ C' σ H y H' R s hy lt => ?_, fun i C' H s s' le => ?_, by simp; omega⟩⟩)))
    · exact ⟨s' _ _ (s _ _ e), by simp at lt; omega⟩
    · obtain ⟨rfl, k, v, hkv, rfl⟩ := hy
      refine ⟨keyD k, C', ?_, same_refl _, R, keys_da k⟩
      have : (es.map (·.1))[i]? = some k := by rw [← hk, List.getElem?_map, hkv]; rfl
      rw [List.map_map]
      show (es.map fun e => keyD e.1)[i]? = _
      rw [show (fun e : Key × PyData => keyD e.1) = keyD ∘ (·.1) from rfl, ← List.map_map, List.getElem?_map, this]; rfl
    · exact ⟨s' _ _ (s _ _ e), by simp at le; omega⟩
  | @dicT a o u zs rds e dt ks hk ne ha =>
    have hl : zs.length = rds.length := by simpa using congrArg List.length hk
    refine .inr (.inr (.inr (.inr ⟨_, a, o, u, zs, rfl, R1.sub _ _ e, dt, z _ ρ1 C1 H1 _ k1 s1 R1 ⟨fun i C' H s s' lt => ?_, fun i F ρ C' σ H y H' R s hy lt => ?_, fun i C' H s s' le => ?_, by have := dt.few; simp; omega⟩⟩)))
    · exact ⟨s' _ _ (s _ _ e), by simp at lt; omega⟩
    · obtain ⟨rfl, y', hz, rfl⟩ := hy
      obtain ⟨ob, h1, h2⟩ := ks y' (List.mem_of_getElem? hz)
      refine ⟨.tuple (y'.1.map PyData.str), C', ?_, same_refl _, R, .tup (s _ _ h1) h2 (da_strs0 _)⟩
      have : (rds.map (·.1))[i]? = some y'.1 := by rw [← hk, List.getElem?_map, hz]; rfl
      rw [List.map_map]
      show (rds.map fun e => PyData.tuple (e.1.map PyData.str))[i]? = _
      rw [show (fun e : List Str × PyData => PyData.tuple (e.1.map PyData.str)) = (fun r => PyData.tuple (r.map PyData.str)) ∘ (·.1) from rfl, ← List.map_map, List.getElem?_map, this]; rfl
    · exact ⟨s' _ _ (s _ _ e), by simp at le; omega⟩
  | _ => exact False.elim k1
theorem qi_any {tg l : Expr} {q : QE} (h : PQ τ X l q) : PQI τ X tg l (qIt q) := pi_imp (pi_any h) it_imp
/-- range(n), range(a, b) -/
def rngD (lo : Int) (n : Nat) : List PyData := (List.range n).map fun (i : Nat) => PyData.int (lo + (i : Int))
def qRng1 (q : QA) : QI := fun ρ κ => q ρ fun ds ρ1 => match ds with
  | [.int j] => -16000000 ≤ j ∧ j ≤ 16000000 ∧ κ (rngD 0 j.toNat) ρ1
  | _ => False
theorem walks_rng {T : PK} {C : Hp} {lo : Int} {n : Nat} (hn : n ≤ 16000000) : Walks T (Itr lo n) C (rngD lo n) := by
  have hl : (rngD lo n).length = n := by simp [rngD]
  refine ⟨fun i C' H _ _ lt => by rw [hl] at lt; exact lt, fun i F ρ C' σ H x H' R s hy lt => ?_, fun i C' H _ _ le => by rw [hl] at le; exact le, by rw [hl]; exact line_le hn⟩
  obtain ⟨rfl, rfl⟩ := hy
  rw [hl] at lt
  refine ⟨.int (lo + (i : Int)), C', ?_, same_refl _, R, .int _⟩
  simp [rngD, lt]
theorem qi_range1 {tg a : Expr} {n : Nat} {q : QA} {p : Pos} (hg : Gl X "range") (hm : X.mg "range" = none) (h : PQN τ X [a] n q) (hs : starEach [a] X.env = [(false, eval a X.env)] := by rfl) : PQI τ X tg (.Call (.Name "range" p) [a] [] pos) (qRng1 q) := by
  refine pi_imp (pi_range1 hg hm h hs) ?_
  rintro σ H R ⟨F, ρ, C, R0, κ, k, z⟩
  refine ⟨F, ρ, C, R0, _, k, fun ds ρ1 vs C1 H1 k1 s1 R1 d1 _ => ?_⟩
  cases d1 with
  | nil => exact False.elim k1
  | cons a t =>
    cases t with
    | cons => cases a <;> exact False.elim k1
    | nil =>
      cases a with
      | int j =>
        obtain ⟨k2, k3, k4⟩ := k1
        exact ⟨j, rfl, by omega, by omega, z _ _ _ _ _ k4 s1 R1 (walks_rng (by omega))⟩
      | _ => exact False.elim k1
end
end L2.Pu

set_option Elab.async false
set_option linter.all false
set_option maxRecDepth 100000
set_option maxHeartbeats 4000000
/-! ## Comprehensions -/
namespace L2.Pu
open PySem PySem.Spec PyProof.Rows
/-- the slots of a block's own names forgotten -/
def wipeR (ρ : Ro) : List Nat → Ro
  | [] => ρ
  | v :: vs => (wipeR ρ vs).set v .un
/-- .. and back: what was data is known again -/
def backR (ρ0 : Ro) (ρ : Ro) : List Nat → Ro
  | [] => ρ
  | v :: vs => match ρ0[v]? with
    | some (.val d) => (backR ρ0 ρ vs).set v (.val d)
    | _ => (backR ρ0 ρ vs).set v .un
section
variable {T : PK} {F : Fm} {ρ : Ro} {C : Hp} {σ : St} {H : Hp} {i : Nat} {p : Addr}
theorem Rep.wipe (R : Rep T F ρ C σ H) : ∀ vs, Rep T F (wipeR ρ vs) C (L2.wipe σ vs) H
  | [] => R
  | v :: vs => (R.wipe vs).forget none
/-- a fresh thing is changed -/
theorem Rep.writeF (R : Rep T F ρ C σ H) (f : Fresh F ρ C σ p) (hr : ∀ q ∈ F.refs, q.2 ≠ p) (nt : (∀ ps, H p ≠ some (.tbl ps)) ∧ ∀ q, H p ≠ some (LamX.CodeO p q)) (u : HO) (no : NoTb u := by intro _ z; cases z) : Rep T F ρ C σ (upd H p u) := by
  refine ⟨R.c0, same_off R.sub f.core, fun b v k nv h => ?_, R.tbl, fun b ps k => ?_, R.ctab, tabs_upd R.tabs nt, R.new, fun q hq => ?_, R.sys, R.len, fun j s hj => ?_, R.apart⟩
  · rw [upd_ne (ne_of_none k f.start)]; exact R.keep b v k nv h
  · by_cases hb : b = p
    · subst hb; rw [upd_same] at k; cases k; exact absurd rfl (no ps)
    · rw [upd_ne hb] at k; exact R.htb b ps k
  · rw [upd_ne (hr q hq)]; exact R.refd q hq
  · have hs := R.slot j s hj
    cases s with
    | un => trivial
    | val d => exact hs
    | scr ns => exact hs
    | exc c d => exact hs
    | fnc f c q σc vs => exact hs
    | own r o =>
      obtain ⟨q, a, b, c, d⟩ := hs
      have ne : q ≠ p := fun e => f.owned j r o hj (by rw [← e]; exact a)
      exact ⟨q, a, b, c.mono (same_refl _) (upd_ne ne), d⟩
/-- a fresh thing becomes data -/
theorem Rep.adopt (R : Rep T F ρ C σ H) (f : Fresh F ρ C σ p) {u : HO} (h : H p = some u) (no : NoTb u := by intro _ z; cases z) : Rep T F ρ (upd C p u) σ H := by
  refine ⟨same_trans R.c0 (same_new f.core), same_in R.sub h, R.keep, R.tbl, R.htb, fun b v k => ?_, R.tabs, fun b v k k0 => ?_, R.refd, ?_, R.len, fun j s hj => ?_, R.apart⟩
  · by_cases e : b = p
    · subst e; rw [upd_same] at k; cases k; exact no
    · rw [upd_ne e] at k; exact R.ctab b v k
  · by_cases e : b = p
    · subst e; exact .inl f.start
    · rw [upd_ne e] at k; exact R.new b v k k0
  · exact R.sys.mono (same_new f.core)
  · have hs := R.slot j s hj
    cases s with
    | un => trivial
    | val d => obtain ⟨x, a, b⟩ := hs; exact ⟨x, a, b.mono (same_new f.core)⟩
    | scr ns => obtain ⟨a, b, c⟩ := hs; exact ⟨a, b, SqL.mono' (same_new f.core) c⟩
    | exc c d => obtain ⟨a, dx, x, e1, e2, e3, e4⟩ := hs; exact ⟨a, dx, x, e1, same_new f.core _ _ e2, same_new f.core _ _ e3, e4.mono (same_new f.core)⟩
    | fnc f' c q σc vs => obtain ⟨e1, e2, e3, e4⟩ := hs; exact ⟨e1, (same_new f.core) _ _ e2, e3, fun i d e => let ⟨x, a, b⟩ := e4 i d e; ⟨x, a, b.mono (same_new f.core)⟩⟩
    | own r o =>
      obtain ⟨q, a, b, c, d⟩ := hs
      have ne : q ≠ p := fun e => f.owned j r o hj (by rw [← e]; exact a)
      exact ⟨q, a, by rw [upd_ne ne]; exact b, c.mono (same_new f.core) rfl, d⟩
theorem wipe_get {σ : St} : ∀ {vs : List Nat} {j : Nat}, j ∉ vs → (L2.wipe σ vs)[j]? = σ[j]?
  | [], _, _ => rfl
  | v :: vs, j, h => by
    unfold L2.wipe
    rw [List.getElem?_set_ne (fun e => h (by rw [e]; exact List.mem_cons_self)), wipe_get fun e => h (List.mem_cons_of_mem _ e)]
theorem backR_length (ρ0 ρ : Ro) : ∀ vs, (backR ρ0 ρ vs).length = ρ.length
  | [] => rfl
  | v :: vs => by
    unfold backR
    split <;> rw [List.length_set, backR_length ρ0 ρ vs]
theorem backR_get {ρ0 ρ : Ro} {s : Slot} {j : Nat} : ∀ {vs : List Nat}, (backR ρ0 ρ vs)[j]? = some s → (j ∈ vs ∧ (s = .un ∨ ∃ d, s = .val d ∧ ρ0[j]? = some (.val d))) ∨ (j ∉ vs ∧ ρ[j]? = some s)
  | [], h => .inr ⟨by simp, h⟩
  | v :: vs, h => by
    unfold backR at h
    split at h
    · rename_i d hd
      rcases getElem?_set' h with ⟨rfl, rfl, _⟩ | ⟨ne, h⟩
      · exact .inl ⟨List.mem_cons_self, .inr ⟨d, rfl, hd⟩⟩
      · rcases backR_get h with ⟨a, b⟩ | ⟨a, b⟩
        · exact .inl ⟨List.mem_cons_of_mem _ a, b⟩
        · exact .inr ⟨by simp only [List.mem_cons, not_or]; exact ⟨ne, a⟩, b⟩
    · rcases getElem?_set' h with ⟨rfl, rfl, _⟩ | ⟨ne, h⟩
      · exact .inl ⟨List.mem_cons_self, .inl rfl⟩
      · rcases backR_get h with ⟨a, b⟩ | ⟨a, b⟩
        · exact .inl ⟨List.mem_cons_of_mem _ a, b⟩
        · exact .inr ⟨by simp only [List.mem_cons, not_or]; exact ⟨ne, a⟩, b⟩
/-- behind a block: the def's own slots again -/
theorem Rep.back {ρ0 : Ro} {C0 : Hp} {H0 : Hp} {vs : List Nat} (R0 : Rep T F ρ0 C0 σ H0) (s : Same C0 C) (R : Rep T F ρ C (L2.wipe σ vs) H) : Rep T F (backR ρ0 ρ vs) C σ H := by
  refine ⟨R.c0, R.sub, R.keep, R.tbl, R.htb, R.ctab, R.tabs, R.new, R.refd, R.sys, by rw [backR_length, R.len, wipe_length], fun j t hj => ?_, fun j k q r r' o o' jk hj hk vj vk => ?_⟩
  · rcases backR_get hj with ⟨a, rfl | ⟨d, rfl, hd⟩⟩ | ⟨a, b⟩
    · trivial
    · obtain ⟨x, hx, hd⟩ := R0.val hd
      exact ⟨x, hx, hd.mono s⟩
    · have := R.slot j t b
      rw [wipe_get a] at this
      exact this
  · rcases backR_get hj with ⟨_, e | ⟨_, e, _⟩⟩ | ⟨a, b⟩
    · cases e
    · cases e
    · rcases backR_get hk with ⟨_, e | ⟨_, e, _⟩⟩ | ⟨a', b'⟩
      · cases e
      · cases e
      · exact R.apart j k q r r' o o' jk b b' (by rw [wipe_get a]; exact vj) (by rw [wipe_get a']; exact vk)
theorem Fresh.mono_wipe {vs : List Nat} (f : Fresh F ρ C σ p) : Fresh F (wipeR ρ vs) C (L2.wipe σ vs) p := by
  refine ⟨f.core, f.start, fun j r o hj hv => ?_⟩
  have : ∀ vs, (wipeR ρ vs)[j]? = some (.own r o) → ρ[j]? = some (.own r o) ∧ j ∉ vs := by
    intro vs
    induction vs with
    | nil => exact fun h => ⟨h, by simp⟩
    | cons v vs ih =>
      intro h
      rcases getElem?_set' h with ⟨_, e, _⟩ | ⟨ne, h⟩
      · cases e
      · exact ⟨(ih h).1, by simp only [List.mem_cons, not_or]; exact ⟨ne, (ih h).2⟩⟩
  obtain ⟨a, b⟩ := this vs hj
  rw [wipe_get b] at hv
  exact f.owned j r o a hv
end

section
variable {X : Cx} {τ : Tb} {pos : Pos}
/-- targets of a block: its own names alone -/
def liftGv (T : PK) (vs : List Nat) (g : QG) : TG := fun v σ H Q => ∃ F ρ C d, Rep T F ρ C σ H ∧ Da T.w C v d ∧ ∃ κ, g d ρ κ ∧ ∀ ρ' C' σ' H', κ ρ' → Same C C' → Rep T F ρ' C' σ' H' → wipe σ' vs = wipe σ vs → Q σ' H'
abbrev PQGv (τ : Tb) (X : Cx) (vs : List Nat) (e : Expr) (g : QG) : Prop := PG X e (liftGv (X.pk τ) vs g)
theorem wipe_set {σ : St} {i : Nat} {x : Option V} : ∀ {vs : List Nat}, i ∈ vs → wipe (σ.set i x) vs = wipe σ vs
  | [], h => by cases h
  | v :: vs, h => by
    by_cases hv : i ∈ vs
    · unfold wipe; rw [wipe_set hv]
    · rcases List.mem_cons.mp h with rfl | h
      · have : ∀ vs : List Nat, i ∉ vs → wipe (σ.set i x) vs = (wipe σ vs).set i x := by
          intro vs
          induction vs with
          | nil => intro _; rfl
          | cons u us ih =>
            intro h
            unfold wipe
            rw [ih fun e => h (List.mem_cons_of_mem _ e), List.set_comm _ _ (fun e => h (by rw [e]; exact List.mem_cons_self))]
        unfold wipe
        rw [this vs hv, List.set_set]
      · exact absurd h hv
theorem qv_name {i : Nat} {x : Str} {vs : List Nat} (hN : X.N.Nodup) (hi : X.N[i]? = some x) (hx : Loc X.env.scope x) (hm : i ∈ vs) (hf : X.fn x = true ∨ X.env.scope.names.lookup x = some .local := by first | exact .inl rfl | exact .inr rfl | assumption) : PQGv τ X vs (.Name x pos) (gN i) := by
  refine pg_imp (pg_name hN hi hx hf) ?_
  rintro v σ H Q ⟨F, ρ, C, d, R, hd, κ, k, z⟩
  exact z _ _ _ _ k (same_refl _) (R.setVal hd) (wipe_set hm)
def liftGsv (T : PK) (vs : List Nat) (g : QGs) : TGs := fun us σ H Q => ∃ F ρ C ds, Rep T F ρ C σ H ∧ DaAll T.w C us ds ∧ ∃ κ, g ds ρ κ ∧ ∀ ρ' C' σ' H', κ ρ' → Same C C' → Rep T F ρ' C' σ' H' → wipe σ' vs = wipe σ vs → Q σ' H'
abbrev PQGsv (τ : Tb) (X : Cx) (vs : List Nat) (es : List Expr) (g : QGs) : Prop := PGs X es (liftGsv (X.pk τ) vs g)
theorem qvs_nil {vs : List Nat} : PQGsv τ X vs [] gsNil := by
  refine pgs_imp pgs_nil ?_
  rintro us σ H Q ⟨F, ρ, C, ds, R, hd, κ, k, z⟩
  cases hd with
  | nil => exact ⟨rfl, z _ _ _ _ k (same_refl _) R rfl⟩
  | cons => exact False.elim k
theorem qvs_cons {e : Expr} {es : List Expr} {g : QG} {r : QGs} {vs : List Nat} (h1 : PQGv τ X vs e g) (h2 : PQGsv τ X vs es r) (hs : (assignEach (e :: es) X.env).map (·.2) = assign e X.env :: (assignEach es X.env).map (·.2) := by rfl) : PQGsv τ X vs (e :: es) (gsCons g r) := by
  refine pgs_imp (pgs_cons h1 h2 hs) ?_
  rintro us σ H Q ⟨F, ρ, C, ds, R, hd, κ, k, z⟩
  cases hd with
  | nil => exact False.elim k
  | cons a t =>
    exact ⟨_, _, rfl, F, ρ, C, _, R, a, _, k, fun ρ1 C1 σ1 H1 k1 s1 R1 w1 => ⟨F, ρ1, C1, _, R1, t.mono s1, κ, k1, fun ρ2 C2 σ2 H2 k2 s2 R2 w2 => z _ _ _ _ k2 (same_trans s1 s2) R2 (w2.trans w1)⟩⟩
theorem qv_tup {es : List Expr} {k : Nat} {g : QGs} {n : Nat} {vs : List Nat} (hc : X.calm = true) (h : PQGsv τ X vs es g) (gl : GLen g n) (hn : (assignEach es X.env).length = n := by rfl) (hst : (assignEach es X.env).findIdx? (·.1) = none := by rfl) : PQGv τ X vs (.Tuple es k pos) (gTup' g) := by
  refine pg_imp (pg_tup hc h hn hst) ?_
  rintro v σ H Q ⟨F, ρ, C, d, R, hd, κ, k, z⟩
  cases hd with
  | tup e _ ha => exact ⟨_, _, rfl, sqF (R.sub _ _ e), by rw [ha.length]; exact gl.len _ _ _ k, F, ρ, C, _, R, ha, κ, k, z⟩
  | _ => exact False.elim k
/-- tests of a clause -/
def qYes : QT := fun ρ κ => κ true ρ
abbrev PQTs (τ : Tb) (X : Cx) (ifs : List Expr) (t : QT) : Prop := PTs X ifs (liftT (X.pk τ) t)
theorem pts_imp {ifs : List Expr} {t t' : TT} (p : PTs X ifs t) (h : ∀ σ H Q, t' σ H Q → t σ H Q) : PTs X ifs t' := ⟨fun pins s σ H Q I q => p.run pins s σ H Q I (h _ _ _ q)⟩
theorem qts_nil : PQTs τ X [] qYes := by
  refine pts_imp pts_nil ?_
  rintro σ H Q ⟨F, ρ, C, R, κ, k, z⟩
  exact z _ _ _ _ k (same_refl _) R
theorem qts_one {c : Expr} {t : QT} (h : PQT τ X c t) : PQTs τ X [c] t := pts_one h
/-- the turns of a comprehension: what is walked, what is made -/
def lcL (g : QG) (tt : QT) (te : QE) (vs : List Nat) (κ : List PyData → Ro → Prop) : List PyData → List PyData → Ro → Prop
  | [], acc, ρ => κ acc ρ
  | d :: ds, acc, ρ => ∃ N : List PyData → Ro → Prop, (∀ acc' ρ', N acc' ρ' → lcL g tt te vs κ ds acc' ρ') ∧ g d ρ fun ρ1 => tt ρ1 fun b ρ2 => yn b (te ρ2 fun y ρ3 => N (acc ++ [y]) (wipeR ρ3 vs)) (N acc (wipeR ρ2 vs))
theorem lcL_by {g : QG} {tt : QT} {te : QE} {vs : List Nat} {κ : List PyData → Ro → Prop} (I : List PyData → List PyData → Ro → Prop) (h0 : ∀ acc ρ, I [] acc ρ → κ acc ρ)
    (hs : ∀ d ds acc ρ, I (d :: ds) acc ρ → g d ρ fun ρ1 => tt ρ1 fun b ρ2 => yn b (te ρ2 fun y ρ3 => I ds (acc ++ [y]) (wipeR ρ3 vs)) (I ds acc (wipeR ρ2 vs))) : ∀ ds acc ρ, I ds acc ρ → lcL g tt te vs κ ds acc ρ
  | [], acc, ρ, h => h0 acc ρ h
  | d :: ds, acc, ρ, h => ⟨I ds, fun acc' ρ' h' => lcL_by I h0 hs ds acc' ρ' h', hs d ds acc ρ h⟩
def qfLc (qi : QI) (g : QG) (tt : QT) (te : QE) (vs : List Nat) : QF := fun ρ κ => qi ρ fun ds ρ1 => lcL g tt te vs (fun acc ρ2 => κ (.lst acc) (backR ρ1 ρ2 vs)) ds [] (wipeR ρ1 vs)
theorem lc_imp {T : PK} {qi : QI} {g : QG} {tt : QT} {te : QE} {vs : List Nat} : ∀ σ H Q, liftF T (qfLc qi g tt te vs) σ H Q → tLc (liftI T qi) (liftGv T vs g) (liftT T tt) (liftE T te) vs σ H Q := by
  rintro σ H Q ⟨F, ρ, C, R, κ, k, z⟩
  refine ⟨F, ρ, C, R, _, k, fun ds ρ1 C1 H1 J k1 s1 R1 wk D hD => ?_⟩
  refine ⟨fun i m H => m + i = ds.length ∧ ∃ ρ2 C2 av acc, Same C1 C2 ∧ Rep T F ρ2 C2 (wipe σ vs) H ∧ H D = some (.lst av) ∧ DaAll T.w C2 av acc ∧ Fresh F ρ2 C2 (wipe σ vs) D ∧ av.length ≤ i ∧ lcL g tt te vs (fun acc ρ2 => κ (.lst acc) (backR ρ1 ρ2 vs)) (ds.drop i) acc ρ2,
    ⟨ds.length, rfl, wipeR ρ1 vs, C1, [], [], same_refl _, (R1.layH hD).wipe vs, upd_same, .nil, (R1.new_fresh hD).mono_wipe, Nat.le_refl _, k1⟩, ?_⟩
  have hr := R1.ref_ne hD
  have c0 := R1.c0_none (sub_none R1.sub hD)
  have few := wk.few
  rintro i m H2 ⟨hm, ρ2, C2, av, acc, s2, R2, e2, d2, f2, l2, k2⟩
  by_cases lt : i < ds.length
  · have hd : ds.drop i = ds[i] :: ds.drop (i + 1) := List.drop_eq_getElem_cons lt
    rw [hd] at k2
    obtain ⟨N, hN, k2⟩ := k2
    refine .inr ⟨wk.go i C2 H2 s2 R2.sub lt, fun H' => ∃ ρ3 C3 av acc, Same C1 C3 ∧ Rep T F ρ3 C3 (wipe σ vs) H' ∧ H' D = some (.lst av) ∧ DaAll T.w C3 av acc ∧ Fresh F ρ3 C3 (wipe σ vs) D ∧ av.length ≤ i + 1 ∧ N acc ρ3, ?_, ?_⟩
    · rintro H' ⟨ρ3, C3, av3, acc3, s3, R3, e3, d3, f3, l3, n3⟩
      exact ⟨m - 1, by omega, by omega, ρ3, C3, av3, acc3, s3, R3, e3, d3, f3, l3, hN _ _ n3⟩
    · intro x H3 hy
      have Rg := R2.guard f2 e2
      obtain ⟨d, C3, hd1, s3, R3, hd2⟩ := wk.yld i _ ρ2 C2 _ H2 x H3 Rg s2 hy lt
      have : ds[i] = d := by rw [List.getElem?_eq_getElem lt] at hd1; exact Option.some.inj hd1
      rw [this] at k2
      have nt : ∀ xs, HO.lst av ≠ .tup xs := fun xs e => nomatch e
      have no : NoTb (HO.lst av) := fun xs e => nomatch e
      refine ⟨_, ρ2, C3, d, R3, hd2, _, k2, fun ρ4 C4 σ4 H4 k4 s4 R4 w4 => ⟨w4.trans ?_, _, ρ4, C4, R4, _, k4, fun b ρ5 C5 H5 k5 s5 R5 => ?_⟩⟩
      · have : ∀ us : List Nat, (∀ u ∈ us, u ∈ vs) → wipe (wipe σ us) vs = wipe σ vs := by
          intro us
          induction us with
          | nil => intro _; rfl
          | cons u us ih =>
            intro h
            show wipe ((wipe σ us).set u none) vs = _
            rw [wipe_set (h u List.mem_cons_self), ih fun w hw => h w (List.mem_cons_of_mem _ hw)]
        exact this vs fun _ h => h
      · have w4' : wipe σ4 vs = wipe σ vs := w4.trans (by
          have : ∀ us : List Nat, (∀ u ∈ us, u ∈ vs) → wipe (wipe σ us) vs = wipe σ vs := by
            intro us
            induction us with
            | nil => intro _; rfl
            | cons u us ih =>
              intro h
              show wipe ((wipe σ us).set u none) vs = _
              rw [wipe_set (h u List.mem_cons_self), ih fun w hw => h w (List.mem_cons_of_mem _ hw)]
          exact this vs fun _ h => h)
        have s15 := same_trans s2 (same_trans s3 (same_trans s4 s5))
        cases b with
        | false =>
          obtain ⟨R6, e6, f6⟩ := R5.unguard nt no f2.start c0 hr
          refine ⟨wipeR ρ5 vs, C5, av, acc, s15, by rw [← w4']; exact R6.wipe vs, e6, d2.mono (same_trans s3 (same_trans s4 s5)), by rw [← w4']; exact f6.mono_wipe, Nat.le_succ_of_le l2, k5⟩
        | true =>
          refine ⟨_, ρ5, C5, R5, _, k5, fun y ρ6 v C6 H6 k6 s6 R6 d6 => ?_⟩
          obtain ⟨R7, e7, f7⟩ := R6.unguard nt no f2.start c0 hr
          refine ⟨av, e7, by omega, wipeR ρ6 vs, C6, av ++ [v], acc ++ [y], same_trans s15 s6, ?_, upd_same, ?_, by rw [← w4']; exact f7.mono_wipe, by rw [List.length_append]; show _ + 1 ≤ _; omega, k6⟩
          · rw [← w4']; exact (R7.writeF f7 hr ⟨fun _ z => (by rw [e7] at z; cases z), fun _ z => (by rw [e7] at z; cases z)⟩ _).wipe vs
          · exact (d2.mono (same_trans s3 (same_trans s4 (same_trans s5 s6)))).snoc d6
  · refine .inl ⟨wk.stop i C2 H2 s2 R2.sub (by omega), ?_⟩
    rw [List.drop_eq_nil_of_le (by omega)] at k2
    have Rb := Rep.back R1 s2 R2
    refine z _ _ _ _ _ k2 (same_trans s1 s2) Rb ⟨av, e2, d2⟩ ⟨f2.core, f2.start, fun j r o hj hv => ?_⟩ hr
    rcases backR_get hj with ⟨_, e | ⟨_, e, _⟩⟩ | ⟨a, b⟩
    · cases e
    · cases e
    · exact f2.owned j r o b (by rw [wipe_get a]; exact hv)
theorem qf_lc {elt tg iter : Expr} {ifs : List Expr} {scope : Scope} {own : List (Str × Nat)} {qi : QI} {g : QG} {tt : QT} {te : QE} (hc : X.calm = true) (hN : X.N.Nodup) (hi : PQI τ X tg iter qi) (ok : BlkOk X.N X.env.scope scope own)
    (hg : ∀ (s : Shared) (H : Hp) (C : Addr) (cl : List (Str × Addr)) (fp : List Addr), PQGv τ (X.blk s H scope (compEnvC scope cl C X.env) fp) (own.map (·.2)) tg g) (ht : ∀ (s : Shared) (H : Hp) (C : Addr) (cl : List (Str × Addr)) (fp : List Addr), PQTs τ (X.blk s H scope (compEnvC scope cl C X.env) fp) ifs tt)
    (he : ∀ (s : Shared) (H : Hp) (C : Addr) (cl : List (Str × Addr)) (fp : List Addr), PQ τ (X.blk s H scope (compEnvC scope cl C X.env) fp) elt te) (hs : ∀ x, foldedSetIterable iter X.env x = pure x := by intro _; rfl) :
    PQF τ X (.ListComp elt [⟨tg, iter, ifs, 0⟩] scope pos) (qfLc qi g tt te (own.map (·.2))) := pe_imp _ (pe_lc hc hN hi ok hg ht he hs) lc_imp
/-- a new list is data at once -/
def qOf (q : QF) : QE := fun ρ κ => q ρ fun o ρ1 => match o with
  | .lst ds => κ (.list ds) ρ1
  | _ => False
theorem of_imp {T : PK} {q : QF} {t : TE} (h : ∀ σ H Q, liftF T q σ H Q → t σ H Q) : ∀ σ H Q, liftE T (qOf q) σ H Q → t σ H Q := by
  rintro σ H Q ⟨F, ρ, C, R, κ, k, z⟩
  refine h σ H Q ⟨F, ρ, C, R, _, k, fun o ρ1 p C1 H1 k1 s1 R1 w1 f1 _ => ?_⟩
  cases o with
  | lst ds =>
    obtain ⟨vs, a, b⟩ := w1
    exact z _ _ _ _ _ k1 (same_trans s1 (same_new f1.core)) (R1.adopt f1 a) (.lst upd_same (own_nsys R1 f1.core) (b.mono (same_new f1.core)))
  | _ => exact False.elim k1
theorem qe_of {e : Expr} {q : QF} (h : PQF τ X e q) : PQ τ X e (qOf q) := pe_imp _ h (of_imp fun _ _ _ z => z)
section
variable {i : Nat} {y : Str} {py spos : Pos} {elt tg iter : Expr} {ifs : List Expr} {scope : Scope} {own : List (Str × Nat)} {qi : QI} {g : QG} {tt : QT} {te : QE}
theorem qs_setLcO (hc : X.calm = true) (hN : X.N.Nodup) (hy : X.N[i]? = some y) (hyl : X.env.scope.names.lookup y = some .local)
    (hsw : swapsWith (.ListComp elt [⟨tg, iter, ifs, 0⟩] scope pos) (some (.Name y py)) spos.line X.env = pure true) (hi : PQI τ X tg iter qi) (ok : BlkOk X.N X.env.scope scope own)
    (hg : ∀ (s : Shared) (H : Hp) (C : Addr) (cl : List (Str × Addr)) (fp : List Addr), PQGv τ (X.blk s H scope (compEnvC scope cl C X.env) fp) (own.map (·.2)) tg g) (ht : ∀ (s : Shared) (H : Hp) (C : Addr) (cl : List (Str × Addr)) (fp : List Addr), PQTs τ (X.blk s H scope (compEnvC scope cl C X.env) fp) ifs tt)
    (he : ∀ (s : Shared) (H : Hp) (C : Addr) (cl : List (Str × Addr)) (fp : List Addr), PQ τ (X.blk s H scope (compEnvC scope cl C X.env) fp) elt te) (hs : ∀ x, foldedSetIterable iter X.env x = pure x := by intro _; rfl) :
    PQS τ X (.Assign [.Name y py] (.ListComp elt [⟨tg, iter, ifs, 0⟩] scope pos) spos) (qSetO i (qfLc qi g tt te (own.map (·.2)))) := by
  refine ps_imp _ (ps_setLc (g := liftGv (X.pk τ) (own.map (·.2)) g) (tt := liftT (X.pk τ) tt) (te := liftE (X.pk τ) te) hc hN hy hyl hsw hi ok hg ht he hs) fun D σ H h => ?_
  exact lc_imp _ _ _ (setO_imp (X := X) D σ H h)
theorem qs_setLc (hc : X.calm = true) (hN : X.N.Nodup) (hy : X.N[i]? = some y) (hyl : X.env.scope.names.lookup y = some .local)
    (hsw : swapsWith (.ListComp elt [⟨tg, iter, ifs, 0⟩] scope pos) (some (.Name y py)) spos.line X.env = pure true) (hi : PQI τ X tg iter qi) (ok : BlkOk X.N X.env.scope scope own)
    (hg : ∀ (s : Shared) (H : Hp) (C : Addr) (cl : List (Str × Addr)) (fp : List Addr), PQGv τ (X.blk s H scope (compEnvC scope cl C X.env) fp) (own.map (·.2)) tg g) (ht : ∀ (s : Shared) (H : Hp) (C : Addr) (cl : List (Str × Addr)) (fp : List Addr), PQTs τ (X.blk s H scope (compEnvC scope cl C X.env) fp) ifs tt)
    (he : ∀ (s : Shared) (H : Hp) (C : Addr) (cl : List (Str × Addr)) (fp : List Addr), PQ τ (X.blk s H scope (compEnvC scope cl C X.env) fp) elt te) (hs : ∀ x, foldedSetIterable iter X.env x = pure x := by intro _; rfl) :
    PQS τ X (.Assign [.Name y py] (.ListComp elt [⟨tg, iter, ifs, 0⟩] scope pos) spos) (qSet i (qOf (qfLc qi g tt te (own.map (·.2))))) := by
  refine ps_imp _ (ps_setLc (g := liftGv (X.pk τ) (own.map (·.2)) g) (tt := liftT (X.pk τ) tt) (te := liftE (X.pk τ) te) hc hN hy hyl hsw hi ok hg ht he hs) fun D σ H h => ?_
  exact of_imp lc_imp _ _ _ (set_imp (X := X) D σ H h)
end
end
end L2.Pu

set_option Elab.async false
set_option linter.all false
set_option maxRecDepth 100000
set_option maxHeartbeats 4000000
/-! ## Defs and their calls -/
namespace L2.Pu
open PySem PySem.Spec PyProof.Rows
/-- what a def promises: its arguments, what it answers with what the own arguments hold then -/
abbrev PSp := List Slot → (PyData → List Slot → Prop) → Prop
/-- the own arguments, by place -/
def refsAt : Nat → List Slot → List V → List (Nat × Addr)
  | i, .own _ _ :: ss, .ref p :: vs => (i, p) :: refsAt (i + 1) ss vs
  | i, _ :: ss, _ :: vs => refsAt (i + 1) ss vs
  | _, _, _ => []
theorem mem_refsAt : ∀ {i : Nat} {ss : List Slot} {vs : List V} {q : Nat × Addr}, q ∈ refsAt i ss vs → ∃ k r o, q.1 = i + k ∧ ss[k]? = some (.own r o) ∧ vs[k]? = some (.ref q.2)
  | i, [], _, q, h => by simp [refsAt] at h
  | i, s :: ss, [], q, h => by cases s <;> simp [refsAt] at h
  | i, s :: ss, v :: vs, q, h => by
    have rest : q ∈ refsAt (i + 1) ss vs → ∃ k r o, q.1 = i + k ∧ (s :: ss)[k]? = some (.own r o) ∧ (v :: vs)[k]? = some (.ref q.2) := fun h => by
      obtain ⟨k, r, o, a, b, c⟩ := mem_refsAt h
      exact ⟨k + 1, r, o, by omega, by simpa using b, by simpa using c⟩
    cases s with
    | own r o =>
      cases v with
      | ref p =>
        rcases List.mem_cons.mp (show q ∈ (i, p) :: refsAt (i + 1) ss vs from h) with rfl | h
        · exact ⟨0, r, o, rfl, rfl, rfl⟩
        · exact rest h
      | _ => exact rest h
    | _ => cases v <;> exact rest h
theorem refsAt_mem : ∀ {i k : Nat} {ss : List Slot} {vs : List V} {r : Bool} {o : Own} {p : Addr}, ss[k]? = some (.own r o) → vs[k]? = some (.ref p) → (i + k, p) ∈ refsAt i ss vs
  | i, k, [], _, _, _, _, h, _ => by simp at h
  | i, k, s :: ss, [], _, _, _, _, h => by simp at h
  | i, 0, s :: ss, v :: vs, r, o, p, h, h' => by
    simp only [List.getElem?_cons_zero, Option.some.injEq] at h h'
    subst h h'
    exact List.mem_cons_self
  | i, k + 1, s :: ss, v :: vs, r, o, p, h, h' => by
    have m : (i + 1 + k, p) ∈ refsAt (i + 1) ss vs := refsAt_mem (by simpa using h) (by simpa using h')
    rw [show i + (k + 1) = i + 1 + k by omega]
    cases s with
    | own r o =>
      cases v with
      | ref p => exact List.mem_cons_of_mem _ m
      | _ => exact m
    | _ => cases v <;> exact m
/-- how a call stands -/
def Stand (T : PK) (C H : Hp) (ss : List Slot) (vs : List V) : Prop := Rep T ⟨C, H, refsAt 0 ss vs⟩ ss C (vs.map some) H
def liftP (T : PK) (sp : PSp) : Sp := fun vs H Q _ => ∃ C ss, Stand T C H ss vs ∧ ∃ κ, sp ss κ ∧ ∀ d ss' v C' H', κ d ss' → Same C C' → Rep T ⟨C, H, refsAt 0 ss vs⟩ ss' C' (vs.map some) H' → Da T.w C' v d → Q v H'
/-- a call's argument: an expression, or a name whose own thing is handed over -/
inductive CArg where
  | e (q : QE)
  | r (j : Nat)
def ownAt (ρ : Ro) (j : Nat) : Option Slot := match ρ[j]? with
  | some (.own _ o) => some (.own true o)
  | some (.scr ns) => some (.scr ns)
  | _ => none
def qArgs : List CArg → Ro → (List Slot → Ro → Prop) → Prop
  | [], ρ, κ => κ [] ρ
  | .e q :: as, ρ, κ => q ρ fun d ρ1 => qArgs as ρ1 fun ss ρ2 => κ (.val d :: ss) ρ2
  | .r j :: as, ρ, κ => (ownAt ρ j).isSome = true ∧ qArgs as ρ fun ss ρ2 => match ownAt ρ2 j with
    | some s => κ (s :: ss) ρ2
    | none => False
def refsOf : List CArg → List Nat
  | [] => []
  | .e _ :: as => refsOf as
  | .r j :: as => j :: refsOf as
def backS (old : Option Slot) (s : Slot) : Slot := match old, s with
  | some (.own r _), .own _ o => .own r o
  | some (.scr ns), _ => .scr ns
  | _, _ => .un
def putBack (ρ1 : Ro) : List CArg → List Slot → Ro → Ro
  | .r j :: as, s :: ss, ρ => putBack ρ1 as ss (ρ.set j (backS ρ1[j]? s))
  | .e _ :: as, _ :: ss, ρ => putBack ρ1 as ss ρ
  | _, _, ρ => ρ
/-- the values of arguments -/
inductive ArgsAre (w : World) (C : Hp) (σ : St) (ρ : Ro) : List CArg → List Slot → List V → Prop
  | nil : ArgsAre w C σ ρ [] [] []
  | e {q : QE} {as : List CArg} {ss : List Slot} {vs : List V} {v : V} {d : PyData} : Da w C v d → ArgsAre w C σ ρ as ss vs → ArgsAre w C σ ρ (.e q :: as) (.val d :: ss) (v :: vs)
  | r {j : Nat} {as : List CArg} {ss : List Slot} {vs : List V} {v : V} {s : Slot} : σ[j]? = some (some v) → ownAt ρ j = some s → ArgsAre w C σ ρ as ss vs → ArgsAre w C σ ρ (.r j :: as) (s :: ss) (v :: vs)
theorem ArgsAre.mono {C C' : Hp} {σ : St} {ρ : Ro} (s : Same C C') : ∀ {as : List CArg} {ss : List Slot} {vs : List V}, ArgsAre w C σ ρ as ss vs → ArgsAre w C' σ ρ as ss vs
  | _, _, _, .nil => .nil
  | _, _, _, .e a t => .e (a.mono s) (t.mono s)
  | _, _, _, .r a b t => .r a b (t.mono s)
theorem ArgsAre.len {C : Hp} {σ : St} {ρ : Ro} : ∀ {as : List CArg} {ss : List Slot} {vs : List V}, ArgsAre w C σ ρ as ss vs → ss.length = vs.length ∧ as.length = vs.length
  | _, _, _, .nil => ⟨rfl, rfl⟩
  | _, _, _, .e _ t => by have := t.len; simp only [List.length_cons]; omega
  | _, _, _, .r _ _ t => by have := t.len; simp only [List.length_cons]; omega
theorem ArgsAre.get {C : Hp} {σ : St} {ρ : Ro} : ∀ {as : List CArg} {ss : List Slot} {vs : List V} {k : Nat} {s : Slot}, ArgsAre w C σ ρ as ss vs → ss[k]? = some s →
    ∃ v, vs[k]? = some v ∧ ((∃ d, s = .val d ∧ Da w C v d) ∨ ∃ j, as[k]? = some (.r j) ∧ σ[j]? = some (some v) ∧ ownAt ρ j = some s)
  | _, _, _, k, _, .nil, h => by simp at h
  | _, _, _, 0, _, .e a t, h => by simp at h; subst h; exact ⟨_, rfl, .inl ⟨_, rfl, a⟩⟩
  | _, _, _, 0, _, .r (j := j) a b t, h => by simp at h; subst h; exact ⟨_, rfl, .inr ⟨j, rfl, a, b⟩⟩
  | _, _, _, k + 1, _, .e a t, h => by
    obtain ⟨v, h1, h2⟩ := t.get (k := k) (by simpa using h)
    exact ⟨v, by simpa using h1, h2.imp id fun ⟨j, x, y⟩ => ⟨j, by simpa using x, y⟩⟩
  | _, _, _, k + 1, _, .r a b t, h => by
    obtain ⟨v, h1, h2⟩ := t.get (k := k) (by simpa using h)
    exact ⟨v, by simpa using h1, h2.imp id fun ⟨j, x, y⟩ => ⟨j, by simpa using x, y⟩⟩
def liftC (T : PK) (as : List CArg) : TA := fun σ H Q => ∃ F ρ C, Rep T F ρ C σ H ∧ ∃ κ, qArgs as ρ κ ∧ ∀ ss ρ' vs C' H', κ ss ρ' → Same C C' → Rep T F ρ' C' σ H' → ArgsAre T.w C' σ ρ' as ss vs → Q vs H'
abbrev PQC (τ : Tb) (X : Cx) (es : List Expr) (as : List CArg) : Prop := PA X es (liftC (X.pk τ) as)
section
variable {X : Cx} {τ : Tb} {pos : Pos} {e : Expr} {es : List Expr}
theorem qc_nil : PQC τ X [] [] := by
  refine pa_imp _ pa_nil ?_
  rintro σ H Q ⟨F, ρ, C, R, κ, k, z⟩
  exact z _ _ _ _ _ k (same_refl _) R .nil
theorem qc_e {q : QE} {as : List CArg} (h : PQ τ X e q) (t : PQC τ X es as) (hs : starEach (e :: es) X.env = (false, eval e X.env) :: starEach es X.env := by rfl) : PQC τ X (e :: es) (.e q :: as) := by
  refine pa_imp _ (pa_cons h t hs) ?_
  rintro σ H Q ⟨F, ρ, C, R, κ, k, z⟩
  refine ⟨F, ρ, C, R, _, k, fun d ρ1 v C1 H1 k1 s1 R1 d1 => ?_⟩
  refine ⟨F, ρ1, C1, R1, _, k1, fun ss ρ2 vs C2 H2 k2 s2 R2 a2 => ?_⟩
  exact z _ _ _ _ _ k2 (same_trans s1 s2) R2 (.e (d1.mono s2) a2)
theorem ownAt_var {T : PK} {F : Fm} {ρ : Ro} {C : Hp} {σ : St} {H : Hp} {j : Nat} {s : Slot} (R : Rep T F ρ C σ H) (h : ownAt ρ j = some s) : ∃ p, σ[j]? = some (some (.ref p)) := by
  unfold ownAt at h
  split at h
  · rename_i r o e
    obtain ⟨p, a, _⟩ := R.own e
    exact ⟨p, a⟩
  · rename_i ns e
    obtain ⟨a, b, c⟩ := R.slot j _ e
    exact ⟨a, b⟩
  · cases h
theorem qc_r {j : Nat} {as : List CArg} (h : PE X e (tVar j)) (t : PQC τ X es as) (hs : starEach (e :: es) X.env = (false, eval e X.env) :: starEach es X.env := by rfl) : PQC τ X (e :: es) (.r j :: as) := by
  refine pa_imp _ (pa_cons h t hs) ?_
  rintro σ H Q ⟨F, ρ, C, R, κ, ⟨k0, k⟩, z⟩
  obtain ⟨s0, e0⟩ := Option.isSome_iff_exists.mp k0
  obtain ⟨p, hp⟩ := ownAt_var R e0
  refine ⟨_, hp, F, ρ, C, R, _, k, fun ss ρ2 vs C2 H2 k2 s2 R2 a2 => ?_⟩
  split at k2
  · rename_i s hs
    exact z _ _ _ _ _ k2 s2 R2 (.r hp hs a2)
  · exact False.elim k2
end
section
variable {T : PK} {F : Fm} {ρ : Ro} {C : Hp} {σ : St} {H : Hp}
theorem ownAt_own {ρ : Ro} {j : Nat} {r : Bool} {o : Own} (h : ownAt ρ j = some (.own r o)) : ∃ r', ρ[j]? = some (.own r' o) := by
  unfold ownAt at h
  split at h
  · rename_i r1 o1 e; cases h; exact ⟨r1, e⟩
  · cases h
  · cases h
theorem ownAt_val {ρ : Ro} {j : Nat} {d : PyData} (h : ownAt ρ j = some (.val d)) : False := by
  unfold ownAt at h
  split at h <;> cases h
theorem ownAt_exc {ρ : Ro} {j : Nat} {c : Addr} {d : PyData} (h : ownAt ρ j = some (.exc c d)) : False := by
  unfold ownAt at h
  split at h <;> cases h
theorem ownAt_fnc {ρ : Ro} {j : Nat} {f c : Addr} {q : Str} {σc : List (Option V)} {vs : List (Option PyData)} (h : ownAt ρ j = some (.fnc f c q σc vs)) : False := by
  unfold ownAt at h
  split at h <;> cases h
theorem ownAt_un {ρ : Ro} {j : Nat} (h : ownAt ρ j = some .un) : False := by
  unfold ownAt at h
  split at h <;> cases h
theorem ownAt_scr {ρ : Ro} {j : Nat} {ns : List Int} (h : ownAt ρ j = some (.scr ns)) : ρ[j]? = some (.scr ns) := by
  unfold ownAt at h
  split at h
  · cases h
  · rename_i e; cases h; exact e
  · cases h
/-- no name is handed over twice -/
def Apart (as : List CArg) : Prop := ∀ k l j : Nat, as[k]? = some (.r j) → as[l]? = some (.r j) → k = l
theorem Rep.stand (R : Rep T F ρ C σ H) {as : List CArg} {ss : List Slot} {vs : List V} (A : ArgsAre T.w C σ ρ as ss vs) (ap : Apart as) : Stand T C H ss vs := by
  refine ⟨same_refl _, R.sub, fun b o k _ _ => k, R.htb, R.htb, R.ctab, R.tabs, fun b o k k0 => ?_, fun q hq => ?_, R.sys, by rw [List.length_map]; exact A.len.1, fun i s hs => ?_, fun i j p r r' o o' ij hi hj vi vj => ?_⟩
  · have k0 : C b = none := k0
    rw [k] at k0; cases k0
  · obtain ⟨k, r, o, a, b, c⟩ := mem_refsAt hq
    obtain ⟨v, h1, h2⟩ := A.get b
    rw [c] at h1; cases h1
    rcases h2 with ⟨d, e, _⟩ | ⟨j, _, e2, e3⟩
    · cases e
    · obtain ⟨r', e4⟩ := ownAt_own e3
      obtain ⟨p, a1, a2, a3⟩ := R.own e4
      rw [e2] at a1; cases a1
      exact a3.ex
  · obtain ⟨v, h1, h2⟩ := A.get hs
    rw [List.getElem?_map, h1]
    rcases h2 with ⟨d, rfl, e⟩ | ⟨j, ej, e2, e3⟩
    · exact ⟨v, rfl, e⟩
    · cases s with
      | un => trivial
      | val d => exact (ownAt_val e3).elim
      | exc c d => exact (ownAt_exc e3).elim
      | fnc f c q σc vs => exact (ownAt_fnc e3).elim
      | scr ns =>
        obtain ⟨a, b, c⟩ := R.slot j _ (ownAt_scr e3)
        rw [e2] at b; cases b
        exact ⟨a, rfl, c⟩
      | own r o =>
        obtain ⟨r', e4⟩ := ownAt_own e3
        have hr : r = true := by
          unfold ownAt at e3
          split at e3
          · cases e3; rfl
          · cases e3
          · cases e3
        obtain ⟨p, a1, a2, a3⟩ := R.own e4
        rw [e2] at a1; cases a1
        refine ⟨p, rfl, a2, a3, ?_⟩
        subst hr
        rw [if_pos rfl]
        show (i, p) ∈ refsAt 0 ss vs
        have := refsAt_mem (i := 0) hs h1
        rw [Nat.zero_add] at this; exact this
  · obtain ⟨v, h1, h2⟩ := A.get hi
    obtain ⟨u, h3, h4⟩ := A.get hj
    rw [List.getElem?_map, h1] at vi
    rw [List.getElem?_map, h3] at vj
    cases vi; cases vj
    rcases h2 with ⟨d, e, _⟩ | ⟨m, em, e2, e3⟩
    · cases e
    · rcases h4 with ⟨d, e, _⟩ | ⟨n, en, e5, e6⟩
      · cases e
      · obtain ⟨r1, q1⟩ := ownAt_own e3
        obtain ⟨r2, q2⟩ := ownAt_own e6
        by_cases mn : m = n
        · subst mn
          exact ij (ap i j m em en)
        · exact R.apart m n p r1 r2 o o' mn q1 q2 e2 e5
theorem putBack_length (ρ1 : Ro) : ∀ (as : List CArg) (ss : List Slot) (ρ : Ro), (putBack ρ1 as ss ρ).length = ρ.length
  | [], _, _ => by simp [putBack]
  | .r j :: as, [], _ => by simp [putBack]
  | .e _ :: as, [], _ => by simp [putBack]
  | .r j :: as, s :: ss, ρ => by
    show (putBack ρ1 as ss (ρ.set j _)).length = _
    rw [putBack_length ρ1 as ss, List.length_set]
  | .e _ :: as, s :: ss, ρ => by
    show (putBack ρ1 as ss ρ).length = _
    rw [putBack_length ρ1 as ss]
theorem putBack_get {ρ1 : Ro} {m : Nat} {t : Slot} : ∀ {as : List CArg} {ss : List Slot} {ρ : Ro}, (putBack ρ1 as ss ρ)[m]? = some t → ρ[m]? = some t ∨ ∃ (k : Nat) (s : Slot), as[k]? = some (.r m) ∧ ss[k]? = some s ∧ t = backS ρ1[m]? s
  | [], _, ρ, h => .inl (by simpa [putBack] using h)
  | .r j :: as, [], ρ, h => .inl (by simpa [putBack] using h)
  | .e _ :: as, [], ρ, h => .inl (by simpa [putBack] using h)
  | .r j :: as, s :: ss, ρ, h => by
    rcases putBack_get (as := as) (ss := ss) (ρ := ρ.set j (backS ρ1[j]? s)) h with h | ⟨k, s', a, b, c⟩
    · rcases getElem?_set' h with ⟨rfl, e, _⟩ | ⟨_, h⟩
      · exact .inr ⟨0, s, rfl, rfl, e⟩
      · exact .inl h
    · exact .inr ⟨k + 1, s', by simpa using a, by simpa using b, c⟩
  | .e _ :: as, s :: ss, ρ, h => by
    rcases putBack_get (as := as) (ss := ss) (ρ := ρ) h with h | ⟨k, s', a, b, c⟩
    · exact .inl h
    · exact .inr ⟨k + 1, s', by simpa using a, by simpa using b, c⟩
theorem wipeR_get {ρ : Ro} {j : Nat} {s : Slot} : ∀ {vs : List Nat}, (wipeR ρ vs)[j]? = some s → s = .un ∨ (ρ[j]? = some s ∧ j ∉ vs)
  | [], h => .inr ⟨h, by simp⟩
  | v :: vs, h => by
    rcases getElem?_set' h with ⟨_, e, _⟩ | ⟨ne, h⟩
    · exact .inl e
    · rcases wipeR_get h with h | ⟨a, b⟩
      · exact .inl h
      · exact .inr ⟨a, by simp only [List.mem_cons, not_or]; exact ⟨ne, b⟩⟩
theorem wipeR_length (ρ : Ro) : ∀ vs, (wipeR ρ vs).length = ρ.length
  | [] => rfl
  | v :: vs => by unfold wipeR; rw [List.length_set, wipeR_length ρ vs]
theorem mem_refsOf : ∀ {as : List CArg} {k j : Nat}, as[k]? = some (.r j) → j ∈ refsOf as
  | [], _, _, h => by simp at h
  | .r i :: as, 0, j, h => by simp at h; subst h; exact List.mem_cons_self
  | .e _ :: as, 0, j, h => by simp at h
  | .r i :: as, k + 1, j, h => List.mem_cons_of_mem _ (mem_refsOf (by simpa using h))
  | .e _ :: as, k + 1, j, h => mem_refsOf (as := as) (k := k) (by simpa using h)
/-- behind a call -/
theorem Rep.after (R : Rep T F ρ C σ H) {as : List CArg} {ss ss' : List Slot} {vs : List V} {C' H' : Hp} (A : ArgsAre T.w C σ ρ as ss vs) (Rc : Rep T ⟨C, H, refsAt 0 ss vs⟩ ss' C' (vs.map some) H') :
    Rep T F (putBack ρ as ss' (wipeR ρ (refsOf as))) C' σ H' := by
  have cs : Same C C' := Rc.c0
  have inRef : ∀ q ∈ refsAt 0 ss vs, ∃ (k j : Nat) (r r' : Bool) (o : Own), as[k]? = some (.r j) ∧ ρ[j]? = some (.own r o) ∧ ss[k]? = some (.own r' o) ∧ σ[j]? = some (some (.ref q.2)) := fun q hq => by
    obtain ⟨k, r, o, a, b, c⟩ := mem_refsAt hq
    obtain ⟨v, h1, h2⟩ := A.get b
    rw [c] at h1; cases h1
    rcases h2 with ⟨d, e, _⟩ | ⟨j, e1, e2, e3⟩
    · cases e
    · obtain ⟨r', e4⟩ := ownAt_own e3
      exact ⟨k, j, r', r, o, e1, e4, b, e2⟩
  have off : ∀ (m : Nat) (r : Bool) (o : Own) (p : Addr), m ∉ refsOf as → ρ[m]? = some (.own r o) → σ[m]? = some (some (.ref p)) → ∀ q ∈ refsAt 0 ss vs, q.2 ≠ p := fun m r o p nm hm hv q hq e => by
    obtain ⟨k, j, r1, r2, o1, e1, e2, e3, e4⟩ := inRef q hq
    have jm : j ≠ m := fun z => nm (by rw [← z]; exact mem_refsOf e1)
    exact R.apart j m p r1 r o1 o jm e2 hm (by rw [← e]; exact e4) hv
  refine ⟨same_trans R.c0 cs, Rc.sub, fun b o k nk hr => ?_, R.tbl, Rc.htb, Rc.ctab, Rc.tabs, fun b o k k0 => ?_, fun q hq => ?_, Rc.sys, by rw [putBack_length, wipeR_length, R.len], fun m t ht => ?_, fun m n p r r' o o' mn hm hn vm vn => ?_⟩
  · refine Rc.keep b o (R.keep b o k nk hr) nk fun q hq e => ?_
    obtain ⟨_, j, r1, r2, o1, e1, e2, e3, e4⟩ := inRef q hq
    obtain ⟨p, a1, a2, a3, a4⟩ := R.slot j _ e2
    rw [e4] at a1; cases a1
    cases r1 with
    | true => exact hr _ a4 e
    | false =>
      have a4 : F.H0 q.2 = none := a4
      rw [e, k] at a4; cases a4
  · cases hc : C b with
    | some o1 =>
      have := cs _ _ hc
      rw [k] at this; cases this
      exact R.new b o hc k0
    | none =>
      rcases Rc.new b o k hc with h | h
      · exact .inl (R.fresh h)
      · exact .inr h
  · obtain ⟨o, ho⟩ := R.refd q hq
    by_cases ht : ∃ ps, o = .tbl ps
    · obtain ⟨ps, rfl⟩ := ht
      obtain ⟨q', m⟩ := R.htb _ ps ho
      obtain ⟨ps', e, _⟩ := Rc.tabs _ m
      exact ⟨_, e⟩
    by_cases hr : ∀ q' ∈ refsAt 0 ss vs, q'.2 ≠ q.2
    · exact ⟨o, Rc.keep _ _ ho (fun ps e => ht ⟨ps, e⟩) hr⟩
    · have : ∃ q' ∈ refsAt 0 ss vs, q'.2 = q.2 := Classical.byContradiction fun hn => hr fun q' hq' e => hn ⟨q', hq', e⟩
      obtain ⟨q', hq', e⟩ := this
      rw [← e]; exact Rc.refd q' hq'
  · rcases putBack_get ht with ht | ⟨k, s, ek, es, rfl⟩
    · rcases wipeR_get ht with rfl | ⟨ht, nm⟩
      · trivial
      · have hs := R.slot m t ht
        cases t with
        | un => trivial
        | val d => obtain ⟨x, a, b⟩ := hs; exact ⟨x, a, b.mono cs⟩
        | scr ns => obtain ⟨a, b, c⟩ := hs; exact ⟨a, b, SqL.mono' cs c⟩
        | exc c d => obtain ⟨a, dx, x, e1, e2, e3, e4⟩ := hs; exact ⟨a, dx, x, e1, cs _ _ e2, cs _ _ e3, e4.mono cs⟩
        | fnc f c q σc vs => obtain ⟨e1, e2, e3, e4⟩ := hs; exact ⟨e1, cs _ _ e2, e3, fun i d e => let ⟨x, a, b⟩ := e4 i d e; ⟨x, a, b.mono cs⟩⟩
        | own r o =>
          obtain ⟨p, a, b, c, d⟩ := hs
          obtain ⟨u, hu⟩ := c.ex
          have hk : H' p = some u := Rc.keep p u hu (fun ps e => c.notab.1 ps (by rw [← e]; exact hu)) (off m r o p nm ht a)
          have hp : H' p = H p := by rw [hk, hu]
          refine ⟨p, a, ?_, c.mono cs hp, d⟩
          cases hc : C' p with
          | none => rfl
          | some o1 =>
            rcases Rc.new p o1 hc b with h | ⟨xs, rfl⟩
            · have h : H p = none := h
              rw [hu] at h; cases h
            · have := Rc.sub _ _ hc
              rw [hp] at this
              exact (c.notup this).elim
    · have hs := Rc.slot k s es
      cases hm : ρ[m]? with
      | none => trivial
      | some old =>
        cases old with
        | un => trivial
        | val d => trivial
        | exc c d => trivial
        | fnc f c q σc vs => trivial
        | scr ns =>
          obtain ⟨a, b, c⟩ := R.slot m _ hm
          exact ⟨a, b, SqL.mono' cs c⟩
        | own r o =>
          cases s with
          | own r' o' =>
            obtain ⟨p, a, b, c, d⟩ := hs
            have hlen : k < ss.length := by
              have h1 := Rc.len
              have h2 := A.len.1
              have h3 : k < ss'.length := (List.getElem?_eq_some_iff.mp es).1
              rw [List.length_map] at h1
              omega
            obtain ⟨v, h1, h2⟩ := A.get (List.getElem?_eq_getElem hlen)
            rw [List.getElem?_map, h1] at a
            cases a
            rcases h2 with ⟨d, e, _⟩ | ⟨j, e1, e2, e3⟩
            · exfalso
              have hh : ∀ {as : List CArg} {ss : List Slot} {vs : List V} {k : Nat}, ArgsAre T.w C σ ρ as ss vs → as[k]? = some (.r m) → ∃ s, ss[k]? = some s ∧ ownAt ρ m = some s := by
                intro as ss vs k A
                induction A generalizing k with
                | nil => intro h; simp at h
                | e _ _ ih =>
                  intro h
                  cases k with
                  | zero => simp at h
                  | succ k =>
                    obtain ⟨s, x, y⟩ := ih (k := k) (by simpa using h)
                    exact ⟨s, by simpa using x, y⟩
                | r h1 h2 _ ih =>
                  intro h
                  cases k with
                  | zero => simp at h; subst h; exact ⟨_, rfl, h2⟩
                  | succ k =>
                    obtain ⟨s, x, y⟩ := ih (k := k) (by simpa using h)
                    exact ⟨s, by simpa using x, y⟩
              obtain ⟨s2, x, y⟩ := hh A ek
              rw [List.getElem?_eq_getElem hlen] at x
              rw [← Option.some.inj x, e] at y
              exact ownAt_val y
            · rw [ek] at e1; cases e1
              obtain ⟨p', f1, f2, f3, f4⟩ := R.slot m _ hm
              rw [e2] at f1; cases f1
              exact ⟨p, e2, b, c, f4⟩
          | un => trivial
          | val d => trivial
          | scr ns => trivial
          | exc c d => trivial
          | fnc f c q σc vs => trivial
  · have back : ∀ {m : Nat} {r : Bool} {o : Own}, (putBack ρ as ss' (wipeR ρ (refsOf as)))[m]? = some (.own r o) → ∃ r1 o1, ρ[m]? = some (.own r1 o1) := fun {m r o} h => by
      rcases putBack_get h with h | ⟨k, s, _, _, e⟩
      · rcases wipeR_get h with h | ⟨h, _⟩
        · cases h
        · exact ⟨_, _, h⟩
      · cases hm : ρ[m]? with
        | none => rw [hm] at e; cases e
        | some old =>
          rw [hm] at e
          cases old with
          | own r1 o1 => exact ⟨r1, o1, rfl⟩
          | un => cases e
          | val d => cases e
          | scr ns => cases e
          | exc c d => cases e
          | fnc f c q σc vs => cases e
    obtain ⟨r1, o1, a⟩ := back hm
    obtain ⟨r2, o2, b⟩ := back hn
    exact R.apart m n p r1 r2 o1 o2 mn a b vm vn
end
/-- a def that keeps its promise, as its name finds it -/
structure PFn (τ : Tb) (P : Program) (w : World) (K : PySem.W.Frag) (mg : Str → Option Value) (base : Heap) (k : Nat) (x : Str) (ps : List Str) (sp : PSp) : Prop where
  ex : ∃ f fd, Fu.FnG P w K mg base CX0 k f fd ps (liftP ⟨P, w, K, τ, base⟩ sp) ∧ mg x = some (.ref f) ∧ PySem.W.keepIn K (.ref f) = true ∧ Binds K fd ps []
section
variable {X : Cx} {τ : Tb} {pos p : Pos} {e : Expr} {es : List Expr}
def qCall (sp : PSp) (as : List CArg) : QE := fun ρ κ => qArgs as ρ fun ss ρ1 => sp ss fun d ss' => κ d (putBack ρ1 as ss' (wipeR ρ1 (refsOf as)))
theorem qe_call {k : Nat} {x : Str} {ps : List Str} {sp : PSp} {as : List CArg} (G : PFn τ X.prog X.w X.K X.mg X.base k x ps sp) (gd : X.A.guards = some []) (hr : Room k X.A) (hg : Gl X x) (ha : PQC τ X (e :: es) as) (ap : Apart as)
    (hdb : (x == ("__debug__" : Str)) = false := by decide) (he : starEach (e :: es) X.env = (false, eval e X.env) :: starEach es X.env := by rfl) (hpl : (backTo pos (starEach es X.env)).any (·.1) = false := by rfl) :
    PQ τ X (.Call (.Name x p) (e :: es) [] pos) (qCall sp as) := by
  obtain ⟨f, fd, F, hm, hk, hb⟩ := G.ex
  have pass : Passes CX0 X (fun _ _ _ => False) := fun _ _ _ _ _ _ _ h => h.elim
  refine pe_imp _ (Fu.pe_callG F gd hr hg hm hk hb .nil (E := fun _ _ _ => False) pass ha hdb he hpl) ?_
  rintro σ H Q ⟨F, ρ, C, R, κ, k, z⟩
  refine ⟨F, ρ, C, R, _, k, fun ss ρ1 vs C1 H1 k1 s1 R1 A1 => ?_⟩
  show liftP _ sp (vs ++ []) H1 Q _
  rw [List.append_nil]
  exact ⟨C1, ss, R1.stand A1 ap, _, k1, fun d ss' v C2 H2 k2 s2 R2 d2 => z _ _ _ _ _ k2 (same_trans s1 s2) (R1.after A1 R2) d2⟩
end
/-- the own arguments at the end -/
def ownsOf : List Slot → Ro → List Slot
  | .own _ _ :: ss, .own true o :: ρ => .own true o :: ownsOf ss ρ
  | _ :: ss, _ :: ρ => .un :: ownsOf ss ρ
  | _ :: ss, [] => .un :: ownsOf ss []
  | [], _ => []
theorem ownsOf_length : ∀ (ss : List Slot) (ρ : Ro), (ownsOf ss ρ).length = ss.length
  | [], _ => by simp [ownsOf]
  | s :: ss, [] => by cases s <;> simp [ownsOf, ownsOf_length ss []]
  | s :: ss, t :: ρ => by
    have step : ∀ {x : Slot}, ownsOf (s :: ss) (t :: ρ) = x :: ownsOf ss ρ → (ownsOf (s :: ss) (t :: ρ)).length = (s :: ss).length := fun e => by rw [e, List.length_cons, List.length_cons, ownsOf_length ss ρ]
    cases s with
    | own r o =>
      cases t with
      | own r' o' => cases r' <;> exact step rfl
      | _ => exact step rfl
    | _ => cases t <;> exact step rfl
theorem ownsOf_get {t : Slot} : ∀ {ss : List Slot} {ρ : Ro} {i : Nat}, (ownsOf ss ρ)[i]? = some t → t = .un ∨ ∃ r o o', t = .own true o' ∧ ss[i]? = some (.own r o) ∧ ρ[i]? = some (.own true o')
  | [], _, i, h => by simp [ownsOf] at h
  | s :: ss, [], i, h => by
    have e : ownsOf (s :: ss) [] = .un :: ownsOf ss [] := by cases s <;> rfl
    rw [e] at h
    cases i with
    | zero => exact .inl (Option.some.inj h).symm
    | succ i =>
      rcases ownsOf_get (ss := ss) (ρ := []) (i := i) (by simpa using h) with h | ⟨r, o, o', a, b, c⟩
      · exact .inl h
      · simp at c
  | s :: ss, u :: ρ, i, h => by
    have step : ∀ {x : Slot}, ownsOf (s :: ss) (u :: ρ) = x :: ownsOf ss ρ → (x = .un ∨ ∃ r o o', x = .own true o' ∧ s = .own r o ∧ u = .own true o') → t = .un ∨ ∃ r o o', t = .own true o' ∧ (s :: ss)[i]? = some (.own r o) ∧ (u :: ρ)[i]? = some (.own true o') := by
      intro x e hx
      rw [e] at h
      cases i with
      | zero =>
        have : x = t := Option.some.inj h
        subst this
        rcases hx with hx | ⟨r, o, o', a, b, c⟩
        · exact .inl hx
        · exact .inr ⟨r, o, o', a, by rw [b]; rfl, by rw [c]; rfl⟩
      | succ i =>
        rcases ownsOf_get (ss := ss) (ρ := ρ) (i := i) (by simpa using h) with h | ⟨r, o, o', a, b, c⟩
        · exact .inl h
        · exact .inr ⟨r, o, o', a, by simpa using b, by simpa using c⟩
    cases s with
    | own r o =>
      cases u with
      | own r' o' =>
        cases r' with
        | true => exact step rfl (.inr ⟨r, o, o', rfl, rfl, rfl⟩)
        | false => exact step rfl (.inl rfl)
      | _ => exact step rfl (.inl rfl)
    | _ => cases u <;> exact step rfl (.inl rfl)
theorem refs_inj {ss : List Slot} {vs : List V} {i : Nat} {p : Addr} (h : (i, p) ∈ refsAt 0 ss vs) : vs[i]? = some (.ref p) := by
  obtain ⟨k, r, o, a, b, c⟩ := mem_refsAt h
  have : i = k := by simpa using a
  rw [this]; exact c
section
variable {τ : Tb} {P : Program} {w : World} {K : PySem.W.Frag} {mg : Str → Option Value} {base : Heap}
theorem rep_start {T : PK} {C H : Hp} {ss : List Slot} {vs : List V} {n : Nat} (R : Stand T C H ss vs) : Rep T ⟨C, H, refsAt 0 ss vs⟩ (ss ++ List.replicate n .un) C (vs.map some ++ List.replicate n none) H := by
  have hl := R.len
  have lookS : ∀ (i : Nat) (s : Slot), (ss ++ List.replicate n Slot.un)[i]? = some s → s = .un ∨ (i < ss.length ∧ ss[i]? = some s) := fun i s h => by
    by_cases lt : i < ss.length
    · rw [List.getElem?_append_left lt] at h; exact .inr ⟨lt, h⟩
    · rw [List.getElem?_append_right (by omega), List.getElem?_replicate] at h
      split at h
      · cases h; exact .inl rfl
      · cases h
  refine ⟨R.c0, R.sub, R.keep, R.tbl, R.htb, R.ctab, R.tabs, R.new, R.refd, R.sys, by simp only [List.length_append, List.length_replicate, hl], fun i s hs => ?_, fun i j p r r' o o' ij hi hj vi vj => ?_⟩
  · rcases lookS i s hs with rfl | ⟨lt, h⟩
    · trivial
    · rw [List.getElem?_append_left (by omega)]; exact R.slot i s h
  · rcases lookS i _ hi with e | ⟨l1, h1⟩
    · cases e
    · rcases lookS j _ hj with e | ⟨l2, h2⟩
      · cases e
      · rw [List.getElem?_append_left (by omega)] at vi vj
        exact R.apart i j p r r' o o' ij h1 h2 vi vj
/-- at the end of the body -/
theorem rep_end {T : PK} {C H C' H' : Hp} {ss : List Slot} {vs : List V} {ρ : Ro} {σ : St} (R0 : Stand T C H ss vs) (R : Rep T ⟨C, H, refsAt 0 ss vs⟩ ρ C' σ H') : Rep T ⟨C, H, refsAt 0 ss vs⟩ (ownsOf ss ρ) C' (vs.map some) H' := by
  have hl := R0.len
  have own : ∀ (i : Nat) (r : Bool) (o : Own), (ownsOf ss ρ)[i]? = some (.own r o) → r = true ∧ ∃ r0 o0 p, ss[i]? = some (.own r0 o0) ∧ ρ[i]? = some (.own true o) ∧ σ[i]? = some (some (.ref p)) ∧ (vs.map some)[i]? = some (some (.ref p)) ∧ C' p = none ∧ OwnAt T C' H' p o ∧ (i, p) ∈ refsAt 0 ss vs := fun i r o h => by
    rcases ownsOf_get h with e | ⟨r0, o0, o', a, b, c⟩
    · cases e
    · cases a
      obtain ⟨p, a1, a2, a3, a4⟩ := R.slot i _ c
      have a4 : (i, p) ∈ refsAt 0 ss vs := a4
      exact ⟨rfl, r0, o0, p, b, c, a1, by rw [List.getElem?_map, refs_inj a4]; rfl, a2, a3, a4⟩
  refine ⟨R.c0, R.sub, R.keep, R.tbl, R.htb, R.ctab, R.tabs, R.new, R.refd, R.sys, by rw [ownsOf_length, hl], fun i s hs => ?_, fun i j p r r' o o' ij hi hj vi vj => ?_⟩
  · rcases ownsOf_get hs with rfl | ⟨r0, o0, o', rfl, b, c⟩
    · trivial
    · obtain ⟨_, _, _, p, _, _, _, e1, e2, e3, e4⟩ := own i _ _ hs
      exact ⟨p, e1, e2, e3, e4⟩
  · obtain ⟨_, _, _, p1, _, x2, x3, x4, _⟩ := own i _ _ hi
    obtain ⟨_, _, _, p2, _, y2, y3, y4, _⟩ := own j _ _ hj
    rw [vi] at x4; cases x4
    rw [vj] at y4; cases y4
    exact R.apart i j p _ _ _ _ ij x2 y2 x3 y3
/-- a def by its body -/
theorem fn_of {x : Str} {st : Stmt} {f : Addr} {fd : FuncData} {N ps : List Str} {k : Nat} {sp : PSp} (F : Fun K x x st f fd) (hm : mg x = some (.ref f)) (hk : PySem.W.keepIn K (.ref f) = true) (hb : Binds K fd ps []) (S : FnScope N ps (defScope st))
    (len : ∀ ss κ, sp ss κ → ss.length = ps.length)
    (body : ∀ (cdv : Value) (A : Around) (outer : List Env) (s : Shared) (H : Hp) (E : XK), (A.deeper (envOfC x (defScope st) s.heap.objs.size f cdv)).guards = some [] → Room k (A.deeper (envOfC x (defScope st) s.heap.objs.size f cdv)) →
      ∃ q, PQSs τ (cxOf CX0 P w K mg base N x (defScope st) f cdv A outer s H E).nox (defBody st) q ∧ ∀ (ss : List Slot) (κ : PyData → List Slot → Prop), sp ss κ →
        q { nx := fun ρ => κ .none (ownsOf ss ρ), rt := fun d ρ => κ d (ownsOf ss ρ) } (ss ++ List.replicate (N.length - ss.length) .un)) : PFn τ P w K mg base (k + 1) x ps sp := by
  refine ⟨f, fd, Fu.Fun.okG F S (fun vs H Q E h => ?_) (fun cdv A outer s H vs Q E gd hr h => ?_), hm, hk, hb⟩
  · obtain ⟨C, ss, R, κ, h, _⟩ := h
    have := R.len
    rw [List.length_map] at this
    rw [← this]; exact len _ _ h
  · obtain ⟨C, ss, R, κ, h, z⟩ := h
    obtain ⟨q, pq, hq⟩ := body cdv A outer s H E gd hr
    have hl := R.len
    rw [List.length_map] at hl
    have R0 := rep_start (n := N.length - vs.length) R
    rw [← hl] at R0
    refine ⟨_, pq, ⟨C, H, refsAt 0 ss vs⟩, _, C, ?_, _, hq ss κ h, ?_, ?_, ?_, ?_⟩
    · unfold start
      rw [← hl]; exact R0
    · exact fun ρ' C' σ' H' k' s' R' => z _ _ _ _ _ k' s' (rep_end R R') .non
    · exact fun d ρ' v C' σ' H' k' s' R' d' => z _ _ _ _ _ k' s' (rep_end R R') d'
    · exact fun ρ' C' σ' H' k' => False.elim k'
    · exact fun ρ' C' σ' H' k' => False.elim k'
end
end L2.Pu

set_option Elab.async false
set_option linter.all false
set_option maxRecDepth 100000
set_option maxHeartbeats 4000000
/-! ## Texts in order -/
namespace L2.Pu
open PySem PySem.Spec PyProof.Rows
/-- a comes ahead of b, or is b -/
def leS (a b : Str) : Bool := decide (¬ b.cps.toList < a.cps.toList)
theorem leS_iff {a b : Str} : leS a b = true ↔ ¬ b.cps.toList < a.cps.toList := by unfold leS; exact decide_eq_true_iff
theorem str_ext {a b : Str} (h : a.cps.toList = b.cps.toList) : a = b := by
  cases a with
  | mk x => cases b with
    | mk y => cases x with
      | mk l => cases y with
        | mk m => cases h; rfl
theorem leS_total (a b : Str) : (leS a b || leS b a) = true := by
  by_cases h : b.cps.toList < a.cps.toList
  · have : ¬ a.cps.toList < b.cps.toList := List.lt_asymm h
    rw [Bool.or_eq_true]; exact .inr (leS_iff.mpr this)
  · rw [Bool.or_eq_true]; exact .inl (leS_iff.mpr h)
theorem leS_trans (a b c : Str) (h1 : leS a b = true) (h2 : leS b c = true) : leS a c = true := by
  rw [leS_iff] at *
  have h1' : a.cps.toList ≤ b.cps.toList := List.not_lt.mp h1
  have h2' : b.cps.toList ≤ c.cps.toList := List.not_lt.mp h2
  exact List.not_lt.mpr (List.le_trans h1' h2')
theorem leS_anti {a b : Str} (h1 : leS a b = true) (h2 : leS b a = true) : a = b := by
  rw [leS_iff] at *
  exact str_ext (List.le_antisymm (List.not_lt.mp h1) (List.not_lt.mp h2))
def sortS (xs : List Str) : List Str := xs.mergeSort leS
theorem sortS_perm (xs : List Str) : (sortS xs).Perm xs := List.mergeSort_perm xs leS
theorem sortS_pair (xs : List Str) : (sortS xs).Pairwise fun a b => leS a b = true := List.pairwise_mergeSort leS_trans leS_total xs
theorem pair_uniq {xs ys : List Str} (p : xs.Perm ys) (h1 : xs.Pairwise fun a b => leS a b = true) (h2 : ys.Pairwise fun a b => leS a b = true) : xs = ys :=
  List.Perm.eq_of_pairwise (le := fun a b => leS a b = true) (fun a b _ _ x y => leS_anti x y) h1 h2 p
theorem rising_pair : ∀ (ys : List Str) (p : Str), risingS p ys = true → (p :: ys).Pairwise fun a b => leS a b = true
  | [], p, _ => List.pairwise_singleton _ _
  | x :: r, p, h => by
    simp only [risingS, Bool.and_eq_true, Bool.not_eq_true'] at h
    have ih := rising_pair r x h.2
    have px : leS p x = true := by
      have := h.1
      rw [ltCps_eq] at this
      rw [leS_iff]; exact of_decide_eq_false this
    refine List.pairwise_cons.mpr ⟨fun b hb => ?_, ih⟩
    rcases List.mem_cons.mp hb with rfl | hb
    · exact px
    · exact leS_trans p x b px ((List.pairwise_cons.mp ih).1 b hb)
theorem sortedS_pair {ys : List Str} (h : sortedS ys = true) : ys.Pairwise fun a b => leS a b = true := by
  cases ys with
  | nil => exact .nil
  | cons x r => exact rising_pair r x h
theorem sortS_of {xs ys : List Str} (p : ys.Perm xs) (h : sortedS ys = true) : ys = sortS xs := pair_uniq (p.trans (sortS_perm xs).symm) (sortedS_pair h) (sortS_pair xs)
theorem sortS_congr {xs ys : List Str} (p : xs.Perm ys) : sortS xs = sortS ys := pair_uniq ((sortS_perm xs).trans (p.trans (sortS_perm ys).symm)) (sortS_pair xs) (sortS_pair ys)
theorem sortS_id {xs : List Str} (h : xs.Pairwise fun a b => leS a b = true) : sortS xs = xs := pair_uniq (sortS_perm xs) (sortS_pair xs) h
theorem sortS_length (xs : List Str) : (sortS xs).length = xs.length := (sortS_perm xs).length_eq
theorem mem_sortS {xs : List Str} {x : Str} : x ∈ sortS xs ↔ x ∈ xs := (sortS_perm xs).mem_iff
end L2.Pu

set_option Elab.async false
set_option linter.all false
set_option maxRecDepth 100000
set_option maxHeartbeats 4000000
/-! ## Built-ins -/
namespace L2.Pu
open PySem PySem.Spec PyProof.Rows
inductive BoAll (w : World) (C H : Hp) : List V → List PyData → Prop
  | nil : BoAll w C H [] []
  | cons {v : V} {vs : List V} {d : PyData} {ds : List PyData} : Bo w C H v d → BoAll w C H vs ds → BoAll w C H (v :: vs) (d :: ds)
/-- an argument: an expression, or a name that holds an own thing and is looked at -/
inductive BArg where
  | e (q : QE)
  | b (i : Nat)
def qBArgs : List BArg → Ro → (List PyData → Ro → Prop) → Prop
  | [], ρ, κ => κ [] ρ
  | .e q :: as, ρ, κ => q ρ fun d ρ1 => qBArgs as ρ1 fun ds ρ2 => κ (d :: ds) ρ2
  | .b i :: as, ρ, κ => (datAt ρ i).isSome = true ∧ qBArgs as ρ fun ds ρ2 => match datAt ρ2 i with
    | some d => κ (d :: ds) ρ2
    | none => False
def liftB (T : PK) (as : List BArg) : TA := fun σ H Q => ∃ F ρ C, Rep T F ρ C σ H ∧ ∃ κ, qBArgs as ρ κ ∧ ∀ ds ρ' vs C' H', κ ds ρ' → Same C C' → Rep T F ρ' C' σ H' → BoAll T.w C' H' vs ds → Q vs H'
abbrev PQB (τ : Tb) (X : Cx) (es : List Expr) (as : List BArg) : Prop := PA X es (liftB (X.pk τ) as)
section
variable {X : Cx} {τ : Tb} {pos p : Pos} {e : Expr} {es : List Expr}
theorem qb_nil : PQB τ X [] [] := by
  refine pa_imp _ pa_nil ?_
  rintro σ H Q ⟨F, ρ, C, R, κ, k, z⟩
  exact z _ _ _ _ _ k (same_refl _) R .nil
theorem qb_e {q : QE} {as : List BArg} (h : PQ τ X e q) (t : PQB τ X es as) (hs : starEach (e :: es) X.env = (false, eval e X.env) :: starEach es X.env := by rfl) : PQB τ X (e :: es) (.e q :: as) := by
  refine pa_imp _ (pa_cons h t hs) ?_
  rintro σ H Q ⟨F, ρ, C, R, κ, k, z⟩
  refine ⟨F, ρ, C, R, _, k, fun d ρ1 v C1 H1 k1 s1 R1 d1 => ?_⟩
  refine ⟨F, ρ1, C1, R1, _, k1, fun ds ρ2 vs C2 H2 k2 s2 R2 a2 => ?_⟩
  exact z _ _ _ _ _ k2 (same_trans s1 s2) R2 (.cons ((d1.mono s2).bo R2.sub) a2)
theorem qb_b {i : Nat} {as : List BArg} (h : PE X e (tVar i)) (t : PQB τ X es as) (hs : starEach (e :: es) X.env = (false, eval e X.env) :: starEach es X.env := by rfl) : PQB τ X (e :: es) (.b i :: as) := by
  refine pa_imp _ (pa_cons h t hs) ?_
  rintro σ H Q ⟨F, ρ, C, R, κ, ⟨k0, k⟩, z⟩
  obtain ⟨d0, e0⟩ := Option.isSome_iff_exists.mp k0
  obtain ⟨v, hv, _⟩ := R.bo e0
  refine ⟨v, hv, F, ρ, C, R, _, k, fun ds ρ2 vs C2 H2 k2 s2 R2 a2 => ?_⟩
  split at k2
  · rename_i d hd
    obtain ⟨u, hu, b⟩ := R2.bo hd
    rw [hv] at hu; cases hu
    exact z _ _ _ _ _ k2 s2 R2 (.cons b a2)
  · exact False.elim k2
abbrev DN := List PyData → (PyData → Prop) → Prop
abbrev RN := List V → Hp → VK → Prop
def OkN (τ : Tb) (X : Cx) (rn : RN) (r : DN) : Prop := ∀ (F : Fm) (ρ : Ro) (C : Hp) (σ : St) (H : Hp) (vs : List V) (ds : List PyData) (P : PyData → Prop) (Q : VK), Rep (X.pk τ) F ρ C σ H → BoAll X.w C H vs ds → r ds P →
  (∀ z v C' H', P z → Same C C' → Rep (X.pk τ) F ρ C' σ H' → Da X.w C' v z → Q v H') → rn vs H Q
def qBlt (r : DN) (as : List BArg) : QE := fun ρ κ => qBArgs as ρ fun ds ρ1 => r ds fun z => κ z ρ1
theorem blt_imp {rn : RN} {r : DN} {as : List BArg} (ok : OkN τ X rn r) : ∀ σ H Q, liftE (X.pk τ) (qBlt r as) σ H Q → tCB rn (liftB (X.pk τ) as) σ H Q := by
  rintro σ H Q ⟨F, ρ, C, R, κ, k, z⟩
  refine ⟨F, ρ, C, R, _, k, fun ds ρ1 vs C1 H1 k1 s1 R1 a1 => ?_⟩
  exact ok F ρ1 C1 σ H1 vs ds _ Q R1 a1 k1 fun w v C' H' kw s' R' d' => z _ _ _ _ _ kw (same_trans s1 s') R' d'
/-- .. that makes a new own thing -/
abbrev DF := List PyData → (Own → Prop) → Prop
def OkF (τ : Tb) (X : Cx) (rn : RN) (r : DF) : Prop := ∀ (F : Fm) (ρ : Ro) (C : Hp) (σ : St) (H : Hp) (vs : List V) (ds : List PyData) (P : Own → Prop) (Q : VK), Rep (X.pk τ) F ρ C σ H → BoAll X.w C H vs ds → r ds P →
  (∀ o u p, P o → H p = none → OwnAt (X.pk τ) C (upd H p u) p o → Q (.ref p) (upd H p u)) → rn vs H Q
def qBltF (r : DF) (as : List BArg) : QF := fun ρ κ => qBArgs as ρ fun ds ρ1 => r ds fun z => κ z ρ1
theorem bltF_imp {rn : RN} {r : DF} {as : List BArg} (ok : OkF τ X rn r) : ∀ σ H Q, liftF (X.pk τ) (qBltF r as) σ H Q → tCB rn (liftB (X.pk τ) as) σ H Q := by
  rintro σ H Q ⟨F, ρ, C, R, κ, k, z⟩
  refine ⟨F, ρ, C, R, _, k, fun ds ρ1 vs C1 H1 k1 s1 R1 a1 => ?_⟩
  exact ok F ρ1 C1 σ H1 vs ds _ Q R1 a1 k1 fun o u p ko np w => z _ _ _ _ _ ko s1 (R1.layH np (fun ps e => w.notab.1 ps (by rw [upd_same, e]))) w (R1.new_fresh np) (R1.ref_ne np)
theorem CallR.or {f : Value} {r s : RN} (a : CallR X f r) (b : CallR X f s) : CallR X f (fun vs H Q => r vs H Q ∨ s vs H Q) := fun pins sh σ H xs us Q I rx h => h.elim (a pins sh σ H xs us Q I rx) (b pins sh σ H xs us Q I rx)
section
variable {x : Str} {id T : String} {rn : RN} {r : DN} {rf : DF} {as : List BArg}
theorem qe_blt (hc : CallR X (.builtin id) rn) (ok : OkN τ X rn r) (hg : Gl X x) (hm : X.mg x = none) (hv : bootBuiltins x = some (.builtin id)) (ha : PQB τ X (e :: es) as) (hn : x ≠ "__name__" := by decide) (hdb : (x == ("__debug__" : Str)) = false := by decide)
    (he : starEach (e :: es) X.env = (false, eval e X.env) :: starEach es X.env := by rfl) (hpl : (backTo pos (starEach es X.env)).any (·.1) = false := by rfl) : PQ τ X (.Call (.Name x p) (e :: es) [] pos) (qBlt r as) := pe_imp _ (pe_callB hc hg hm hv ha hn hdb he hpl) (blt_imp ok)
theorem qe_bty (hc : CallR X (.type T) rn) (ok : OkN τ X rn r) (hg : Gl X x) (hm : X.mg x = none) (hv : bootBuiltins x = some (.type T)) (ha : PQB τ X (e :: es) as) (hn : x ≠ "__name__" := by decide) (hdb : (x == ("__debug__" : Str)) = false := by decide)
    (he : starEach (e :: es) X.env = (false, eval e X.env) :: starEach es X.env := by rfl) (hpl : (backTo pos (starEach es X.env)).any (·.1) = false := by rfl) : PQ τ X (.Call (.Name x p) (e :: es) [] pos) (qBlt r as) := pe_imp _ (pe_callTy hc hg hm hv ha hn hdb he hpl) (blt_imp ok)
theorem qf_blt (hc : CallR X (.builtin id) rn) (ok : OkF τ X rn rf) (hg : Gl X x) (hm : X.mg x = none) (hv : bootBuiltins x = some (.builtin id)) (ha : PQB τ X (e :: es) as) (hn : x ≠ "__name__" := by decide) (hdb : (x == ("__debug__" : Str)) = false := by decide)
    (he : starEach (e :: es) X.env = (false, eval e X.env) :: starEach es X.env := by rfl) (hpl : (backTo pos (starEach es X.env)).any (·.1) = false := by rfl) : PQF τ X (.Call (.Name x p) (e :: es) [] pos) (qBltF rf as) := pe_imp _ (pe_callB hc hg hm hv ha hn hdb he hpl) (bltF_imp ok)
theorem qf_bty (hc : CallR X (.type T) rn) (ok : OkF τ X rn rf) (hg : Gl X x) (hm : X.mg x = none) (hv : bootBuiltins x = some (.type T)) (ha : PQB τ X (e :: es) as) (hn : x ≠ "__name__" := by decide) (hdb : (x == ("__debug__" : Str)) = false := by decide)
    (he : starEach (e :: es) X.env = (false, eval e X.env) :: starEach es X.env := by rfl) (hpl : (backTo pos (starEach es X.env)).any (·.1) = false := by rfl) : PQF τ X (.Call (.Name x p) (e :: es) [] pos) (qBltF rf as) := pe_imp _ (pe_callTy hc hg hm hv ha hn hdb he hpl) (bltF_imp ok)
end
/-! ### len -/
def lenD : DN := fun ds P => match ds with
  | [.list xs] => P (.int (xs.length : Nat))
  | [.tuple xs] => P (.int (xs.length : Nat))
  | [.str x] => x.length ≤ 16000000 ∧ P (.int (x.length : Nat))
  | _ => False
abbrev rLenT (K : PySem.W.Frag) : RN := fun xs H Q => (∃ x n, xs = [x] ∧ LenV K x H n ∧ Q (.int n) H) ∨ ∃ a kvs, xs = [V.ref a] ∧ Rd H a (.dK kvs) ∧ Q (.int (kvs.length : Nat)) H
theorem call_lenT : CallR X (.builtin "len") (rLenT X.K) := by
  refine CallR.or call_len ?_
  intro pins s σ H xs us Q I r h
  obtain ⟨a, kvs, rfl, ha, q⟩ := h
  obtain ⟨u, rfl, ru⟩ := vals1 r
  cases ru
  exact d_len I ha fun t s' I' => ⟨.int kvs.length, H, I', ⟨t, rfl⟩, q⟩
theorem ok_len : OkN τ X (rLenT X.K) lenD := by
  intro F ρ C σ H vs ds P Q R a h z
  cases a with
  | nil => exact False.elim h
  | cons a t =>
    cases t with
    | cons => cases a <;> exact False.elim h
    | nil =>
      cases a with
      | lst e ha => exact .inl ⟨_, _, rfl, .inl ⟨_, SqL.of e, rfl⟩, okq R z h (by rw [← ha.length]; exact .int _)⟩
      | tup e _ ha => exact .inl ⟨_, _, rfl, .inr ⟨_, sqF (R.sub _ _ e), rfl⟩, okq R z h (by rw [← ha.length]; exact .int _)⟩
      | str x => exact .inl ⟨_, _, rfl, ⟨line_le h.1, rfl⟩, okq R z h.2 (.int _)⟩
      | _ => exact False.elim h
theorem qe_len {as : List BArg} (hg : Gl X "len") (hm : X.mg "len" = none) (ha : PQB τ X (e :: es) as) (he : starEach (e :: es) X.env = (false, eval e X.env) :: starEach es X.env := by rfl) (hpl : (backTo pos (starEach es X.env)).any (·.1) = false := by rfl) : PQ τ X (.Call (.Name "len" p) (e :: es) [] pos) (qBlt lenD as) := qe_blt call_lenT ok_len hg hm PySem.boot_len ha (by decide) (by decide) he hpl
/-! ### tuple, list -/
def tupleD : DN := fun ds P => match ds with
  | [.list xs] => P (.tuple xs)
  | [.tuple xs] => P (.tuple xs)
  | _ => False
def rTupF (K : PySem.W.Frag) : RN := fun xs H Q => ∃ p ys, xs = [.ref p] ∧ ((SqL K H p ys ∧ ∀ l o, H l = none → Fine o ys → Q (.ref l) (upd H l o)) ∨ (SqT K H p ys ∧ Q (.ref p) H))
theorem call_tupF : CallR X (.type "tuple") (rTupF X.K) := by
  intro pins s σ H xs us Q I rv k
  obtain ⟨a, ys, rfl, k⟩ := k
  obtain ⟨u, rfl, ru⟩ := vals1 rv
  cases ru
  rcases k with ⟨sq, q⟩ | ⟨sq, q⟩
  · obtain ⟨vs, rs, pl, zl⟩ := I.list sq
    have ln := rs.length
    refine call_tuple_list pl.isList (fun h1 kp => ?_) (by simp only [List.size_toArray] <;> omega)
    have J : Inv X pins σ H { s with heap := h1 } := I.kept (t' := s.toks) kp
    exact ⟨.ref h1.objs.size, _, J.laid (t' := s.toks) (fun b ob e => Heap.get?_push_of_some _ e) (Nat.le_refl _) (tup_new zl rs), rfl, q _ _ (J.hok.fresh (Nat.le_refl _)) ⟨_, rfl, rfl⟩⟩
  · obtain ⟨vs, rs, pl, zl⟩ := I.tuple sq
    exact call_tuple_same pl ⟨V.ref a, H, I, rfl, q⟩
theorem ok_tuple : OkN τ X (rTupF X.K) tupleD := by
  intro F ρ C σ H vs ds P Q R a h z
  cases a with
  | nil => exact False.elim h
  | cons a t =>
    cases t with
    | cons => cases a <;> exact False.elim h
    | nil =>
      cases a with
      | lst e ha => exact ⟨_, _, rfl, .inl ⟨SqL.of e, fun l o nl fo => by
          obtain ⟨ob, rfl, hd⟩ := fo
          exact z _ _ _ _ h (same_new (sub_none R.sub nl)) (R.lay nl) (.tup upd_same hd (ha.mono (same_new (sub_none R.sub nl))))⟩⟩
      | tup e hd ha => exact ⟨_, _, rfl, .inr ⟨sqF (R.sub _ _ e), okq R z h (.tup e hd ha)⟩⟩
      | _ => exact False.elim h
theorem qe_tuple {as : List BArg} (hg : Gl X "tuple") (hm : X.mg "tuple" = none) (ha : PQB τ X (e :: es) as) (he : starEach (e :: es) X.env = (false, eval e X.env) :: starEach es X.env := by rfl) (hpl : (backTo pos (starEach es X.env)).any (·.1) = false := by rfl) :
    PQ τ X (.Call (.Name "tuple" p) (e :: es) [] pos) (qBlt tupleD as) := qe_bty call_tupF ok_tuple hg hm (by decide +kernel) ha (by decide) (by decide) he hpl
def listF : DF := fun ds P => match ds with
  | [.list xs] => P (.lst xs)
  | [.tuple xs] => P (.lst xs)
  | _ => False
theorem ok_list : OkF τ X (fun xs H Q => ∃ p ys, xs = [.ref p] ∧ (SqL X.K H p ys ∨ SqT X.K H p ys) ∧ ∀ l, H l = none → Q (.ref l) (upd H l (.lst ys))) listF := by
  intro F ρ C σ H vs ds P Q R a h z
  cases a with
  | nil => exact False.elim h
  | cons a t =>
    cases t with
    | cons => cases a <;> exact False.elim h
    | nil =>
      cases a with
      | lst e ha => exact ⟨_, _, rfl, .inl (SqL.of e), fun l nl => z _ _ _ h nl ⟨_, upd_same, ha⟩⟩
      | tup e _ ha => exact ⟨_, _, rfl, .inr (sqF (R.sub _ _ e)), fun l nl => z _ _ _ h nl ⟨_, upd_same, ha⟩⟩
      | _ => exact False.elim h
theorem qf_listOf {as : List BArg} (hg : Gl X "list") (hm : X.mg "list" = none) (ha : PQB τ X (e :: es) as) (he : starEach (e :: es) X.env = (false, eval e X.env) :: starEach es X.env := by rfl) (hpl : (backTo pos (starEach es X.env)).any (·.1) = false := by rfl) :
    PQF τ X (.Call (.Name "list" p) (e :: es) [] pos) (qBltF listF as) := qf_bty call_list_of ok_list hg hm (by decide +kernel) ha (by decide) (by decide) he hpl
/-! ### all, any -/
def allD (f : List Bool → Bool) : DN := fun ds P => match ds with
  | [.list xs] => ∃ bs : List Bool, xs = bs.map PyData.bool ∧ P (.bool (f bs))
  | _ => False
theorem bools_of {C : Hp} : ∀ {bs : List Bool} {vs : List V}, DaAll w C vs (bs.map PyData.bool) → vs = bs.map V.bl
  | [], _, h => by cases h; rfl
  | b :: bs, _, h => by
    cases h with
    | cons a t => cases a; rw [bools_of t]; rfl
theorem ints_of {C : Hp} : ∀ {bs : List Int} {vs : List V}, DaAll w C vs (bs.map PyData.int) → vs = bs.map V.int
  | [], _, h => by cases h; rfl
  | b :: bs, _, h => by
    cases h with
    | cons a t => cases a; rw [ints_of t]; rfl
theorem strs_of {C : Hp} : ∀ {bs : List Str} {vs : List V}, DaAll w C vs (bs.map PyData.str) → vs = bs.map V.str
  | [], _, h => by cases h; rfl
  | b :: bs, _, h => by
    cases h with
    | cons a t => cases a; rw [strs_of t]; rfl
theorem da_strs {C : Hp} : ∀ bs : List Str, DaAll w C (bs.map V.str) (bs.map PyData.str)
  | [] => .nil
  | b :: bs => .cons (.str b) (da_strs bs)
theorem ok_allD {f : List Bool → Bool} : OkN τ X (fun vs H Q => ∃ (a : Addr) (bs : List Bool), vs = [V.ref a] ∧ SqL X.K H a (bs.map V.bl) ∧ Q (.bl (f bs)) H) (allD f) := by
  intro F ρ C σ H vs ds P Q R a h z
  cases a with
  | nil => exact False.elim h
  | cons a t =>
    cases t with
    | cons => cases a <;> exact False.elim h
    | nil =>
      cases a with
      | lst e ha =>
        obtain ⟨bs, rfl, h⟩ := h
        rw [bools_of ha] at e
        exact ⟨_, bs, rfl, SqL.of e, okq R z h (.bl _)⟩
      | _ => exact False.elim h
section
variable {as : List BArg}
theorem qe_all (hc : X.calm = true) (hg : Gl X "all") (hm : X.mg "all" = none) (ha : PQB τ X (e :: es) as) (he : starEach (e :: es) X.env = (false, eval e X.env) :: starEach es X.env := by rfl) (hpl : (backTo pos (starEach es X.env)).any (·.1) = false := by rfl) :
    PQ τ X (.Call (.Name "all" p) (e :: es) [] pos) (qBlt (allD fun bs => bs.all id) as) := qe_blt (cr_all hc) ok_allD hg hm PyProof.Rows.boot_all ha (by decide) (by decide) he hpl
theorem qe_any (hc : X.calm = true) (hg : Gl X "any") (hm : X.mg "any" = none) (ha : PQB τ X (e :: es) as) (he : starEach (e :: es) X.env = (false, eval e X.env) :: starEach es X.env := by rfl) (hpl : (backTo pos (starEach es X.env)).any (·.1) = false := by rfl) :
    PQ τ X (.Call (.Name "any" p) (e :: es) [] pos) (qBlt (allD fun bs => bs.any id) as) := qe_blt (cr_any hc) ok_allD hg hm PyProof.Rows.boot_any ha (by decide) (by decide) he hpl
end
/-! ### max, min of two whole numbers; sum -/
def mm2D (f : Int → Int → Int) : DN := fun ds P => match ds with
  | [.int i, .int j] => P (.int (f i j))
  | _ => False
theorem ok_mm2 {f : Int → Int → Int} : OkN τ X (fun xs H Q => ∃ i j, xs = [.int i, .int j] ∧ Q (.int (f i j)) H) (mm2D f) := by
  intro F ρ C σ H vs ds P Q R a h z
  cases a with
  | nil => exact False.elim h
  | cons a t =>
    cases t with
    | nil => cases a <;> exact False.elim h
    | cons b t =>
      cases t with
      | cons => cases a <;> cases b <;> exact False.elim h
      | nil =>
        cases a with
        | int i =>
          cases b with
          | int j => exact ⟨i, j, rfl, okq R z h (.int _)⟩
          | _ => exact False.elim h
        | _ => cases b <;> exact False.elim h
section
variable {as : List BArg}
theorem qe_max2 (hc : X.calm = true) (hg : Gl X "max") (hm : X.mg "max" = none) (ha : PQB τ X (e :: es) as) (he : starEach (e :: es) X.env = (false, eval e X.env) :: starEach es X.env := by rfl) (hpl : (backTo pos (starEach es X.env)).any (·.1) = false := by rfl) :
    PQ τ X (.Call (.Name "max" p) (e :: es) [] pos) (qBlt (mm2D fun i j => if j > i then j else i) as) := qe_blt (call_max2 hc) ok_mm2 hg hm (by decide +kernel) ha (by decide) (by decide) he hpl
theorem qe_min2 (hc : X.calm = true) (hg : Gl X "min") (hm : X.mg "min" = none) (ha : PQB τ X (e :: es) as) (he : starEach (e :: es) X.env = (false, eval e X.env) :: starEach es X.env := by rfl) (hpl : (backTo pos (starEach es X.env)).any (·.1) = false := by rfl) :
    PQ τ X (.Call (.Name "min" p) (e :: es) [] pos) (qBlt (mm2D fun i j => if j < i then j else i) as) := qe_blt (call_min2 hc) ok_mm2 hg hm (by decide +kernel) ha (by decide) (by decide) he hpl
end
/-! ### sorted: texts -/
def sortF : DF := fun ds P => match ds with
  | [.list xs] => ∃ ts : List Str, xs = ts.map PyData.str ∧ ts.length < 64 ∧ P (.lst ((sortS ts).map PyData.str))
  | [.dict kvs] => ∃ ts : List Str, kvs.map (·.1) = ts.map PyData.str ∧ ts.length < 64 ∧ P (.lst ((sortS ts).map PyData.str))
  | _ => False
abbrev rSortA (K : PySem.W.Frag) : RN := fun xs H Q => rSortedS K xs H Q ∨ ∃ (a : Addr) (kvs : List (Key × V)) (ks : List Str), xs = [.ref a] ∧ Rd H a (.dK kvs) ∧ kvs.map (·.1) = ks.map Sum.inr ∧ ks.length < 64 ∧
    ∀ ys p, ys.Perm ks → sortedS ys = true → H p = none → Q (.ref p) (upd H p (.lst (ys.map V.str)))
theorem keyD_inj {k k' : Key} (h : keyD k = keyD k') : k = k' := by
  cases k <;> cases k' <;> cases h <;> rfl
theorem keys_str {κ : Type} {f : κ → Key} : ∀ {es : List κ} {ts : List Str}, (es.map fun e => keyD (f e)) = ts.map PyData.str → es.map f = ts.map Sum.inr
  | [], [], _ => rfl
  | [], t :: ts, h => by cases h
  | e :: es, [], h => by cases h
  | e :: es, t :: ts, h => by
    simp only [List.map_cons, List.cons.injEq] at h ⊢
    exact ⟨keyD_inj (k' := .inr t) h.1, keys_str h.2⟩
theorem ok_sort : OkF τ X (rSortA X.K) sortF := by
  intro F ρ C σ H vs ds P Q R a h z
  cases a with
  | nil => exact False.elim h
  | cons a t =>
    cases t with
    | cons => cases a <;> exact False.elim h
    | nil =>
      cases a with
      | lst e ha =>
        obtain ⟨ts, rfl, hl, h⟩ := h
        rw [strs_of ha] at e
        refine .inl ⟨_, ts, rfl, SqL.of e, hl, fun ys p py sy np => ?_⟩
        rw [sortS_of py sy]
        exact z _ _ _ h np ⟨_, upd_same, da_strs _⟩
      | @dic b kvs es e hk ha =>
        obtain ⟨ts, ht, hl, h⟩ := h
        rw [List.map_map] at ht
        have hk2 : kvs.map (·.1) = ts.map Sum.inr := by rw [hk]; exact keys_str (f := fun e : Key × PyData => e.1) ht
        refine .inr ⟨b, kvs, ts, rfl, e, hk2, hl, fun ys p py sy np => ?_⟩
        rw [sortS_of py sy]
        exact z _ _ _ h np ⟨_, upd_same, da_strs _⟩
      | @dicT b o u zs rds e dt ks hk ne ha =>
        obtain ⟨ts, ht, _⟩ := h
        cases rds with
        | nil => exact absurd rfl ne
        | cons r rds => cases ts with
          | nil => cases ht
          | cons t ts => rw [List.map_cons, List.map_cons, List.map_cons] at ht; injection ht with h1 _; cases h1
      | _ => exact False.elim h
theorem qf_sorted {as : List BArg} (hc : X.calm = true) (hg : Gl X "sorted") (hm : X.mg "sorted" = none) (ha : PQB τ X (e :: es) as) (he : starEach (e :: es) X.env = (false, eval e X.env) :: starEach es X.env := by rfl) (hpl : (backTo pos (starEach es X.env)).any (·.1) = false := by rfl) :
    PQF τ X (.Call (.Name "sorted" p) (e :: es) [] pos) (qBltF sortF as) := qf_blt (CallR.or cr_sortedS (call_sortedD hc)) ok_sort hg hm (by decide +kernel) ha (by decide) (by decide) he hpl
end
end L2.Pu

set_option Elab.async false
set_option linter.all false
set_option maxRecDepth 100000
set_option maxHeartbeats 4000000
/-! ## Items, slices, lists that change, repr, isinstance -/
namespace L2.Pu
open PySem PySem.Spec PyProof.Rows
section
variable {X : Cx} {τ : Tb} {pos p : Pos} {a b e : Expr} {qa qb : QE}
/-! ### items -/
def ixD : D2 := fun x y P => match x, y with
  | .list ds, .int i => match atI ds i with
    | some d => P d
    | none => False
  | .tuple ds, .int i => match atI ds i with
    | some d => P d
    | none => False
  | .str z, .int i => z.length ≤ 16000000 ∧ match atI z.cps.toList i with
    | some c => P (.str ⟨#[c]⟩)
    | none => False
  | _, _ => False
theorem atI_all {C : Hp} {vs : List V} {ds : List PyData} {i : Int} {d : PyData} (h : DaAll w C vs ds) (e : atI ds i = some d) : ∃ v, atI vs i = some v ∧ Da w C v d := by
  have hl := h.length
  unfold atI at e ⊢
  rw [hl]
  cases hx : ixN ds.length i with
  | none => rw [hx] at e; cases e
  | some j =>
    rw [hx] at e
    exact h.put e
theorem ok_ix : OkD τ X (rIx X.K) ixD := by
  intro F ρ C σ H x y d e P Q R dx dy h z
  cases dy with
  | int i =>
    cases dx with
    | lst ea ha =>
      simp only [ixD] at h
      split at h
      · rename_i d' e'
        obtain ⟨v, hv, dv⟩ := atI_all ha e'
        exact .inl ⟨_, _, i, v, rfl, rfl, SqL.of ea, hv, okq R z h dv⟩
      · exact False.elim h
    | tup ea _ ha =>
      simp only [ixD] at h
      split at h
      · rename_i d' e'
        obtain ⟨v, hv, dv⟩ := atI_all ha e'
        exact .inr (.inl ⟨_, _, i, v, rfl, rfl, sqF (R.sub _ _ ea), hv, okq R z h dv⟩)
      · exact False.elim h
    | str w =>
      simp only [ixD] at h
      obtain ⟨hl, h⟩ := h
      split at h
      · rename_i c e'
        exact .inr (.inr ⟨w, i, c, rfl, rfl, line_le hl, e', okq R z h (.str _)⟩)
      · exact False.elim h
    | _ => exact False.elim h
  | _ => cases dx <;> exact False.elim h
theorem qe_ix (ha : PQ τ X a qa) (hb : PQ τ X b qb) (hs : PlainIx b := by exact fun _ _ => rfl) : PQ τ X (.Subscript a b pos) (qOp ixD qa qb) := pe_imp _ (pe_ix ix_seq ha hb hs) (op_imp ok_ix)
theorem qe_ixL {i : Nat} (ha : PE X a (tVar i)) (hb : PQ τ X b qb) (hs : PlainIx b := by exact fun _ _ => rfl) : PQ τ X (.Subscript a b pos) (qOpL ixD i qb) := pe_imp _ (pe_ix ix_seq ha hb hs) (opL_imp ok_ix)
/-! ### slices -/
def cutD (ds : List PyData) (lo hi : Option Int) : List PyData := (ds.drop (HT.sIx ds.length 0 lo)).take (HT.sIx ds.length ds.length hi - HT.sIx ds.length 0 lo)
theorem cut_all {C : Hp} {vs : List V} {ds : List PyData} {lo hi : Option Int} (h : DaAll w C vs ds) : DaAll w C (cutV vs lo hi) (cutD ds lo hi) := by
  unfold cutV cutD
  rw [h.length]
  exact (h.drop _).take _
theorem cut_whole {ds : List PyData} {lo hi : Option Int} (h : HT.sIx ds.length 0 lo = 0 ∧ HT.sIx ds.length ds.length hi = ds.length) : cutD ds lo hi = ds := by
  unfold cutD
  rw [h.1, h.2, List.drop_zero, Nat.sub_zero, List.take_length]
abbrev QO := Ro → (Option Int → Ro → Prop) → Prop
def qoNone : QO := fun ρ κ => κ none ρ
def qoSome (q : QE) : QO := fun ρ κ => q ρ fun d ρ1 => match d with
  | .int i => κ (some i) ρ1
  | _ => False
def liftO (T : PK) (q : QO) : TO := fun σ H Q => ∃ F ρ C, Rep T F ρ C σ H ∧ ∃ κ, q ρ κ ∧ ∀ o ρ' C' H', κ o ρ' → Same C C' → Rep T F ρ' C' σ H' → Q o H'
abbrev PQO (τ : Tb) (X : Cx) (e : Option Expr) (q : QO) : Prop := PO X e (liftO (X.pk τ) q)
theorem po_imp {e : Option Expr} {t t' : TO} (h : PO X e t) (i : ∀ σ H Q, t' σ H Q → t σ H Q) : PO X e t' := ⟨fun pins s σ H Q I q => h.run pins s σ H Q I (i _ _ _ q)⟩
theorem qo_none : PQO τ X none qoNone := by
  refine po_imp po_none ?_
  rintro σ H Q ⟨F, ρ, C, R, κ, k, z⟩
  exact z _ _ _ _ k (same_refl _) R
theorem qo_some (h : PQ τ X e qa) : PQO τ X (some e) (qoSome qa) := by
  refine po_imp (po_some h) ?_
  rintro σ H Q ⟨F, ρ, C, R, κ, k, z⟩
  refine ⟨F, ρ, C, R, _, k, fun d ρ1 v C1 H1 k1 s1 R1 d1 => ?_⟩
  cases d1 with
  | int i => exact ⟨i, rfl, z _ _ _ _ k1 s1 R1⟩
  | _ => exact False.elim k1
theorem SlR.or {r s : V → Option Int → Option Int → Hp → VK → Prop} (a : SlR X r) (b : SlR X s) : SlR X (fun x lo hi H Q => r x lo hi H Q ∨ s x lo hi H Q) := fun pins sh σ H x v vl vu lo hi sl Q I rx hs pl pu h =>
  h.elim (a pins sh σ H x v vl vu lo hi sl Q I rx hs pl pu) (b pins sh σ H x v vl vu lo hi sl Q I rx hs pl pu)
def qSl (q : QE) (lo hi : QO) : QE := fun ρ κ => q ρ fun d ρ1 => lo ρ1 fun l ρ2 => hi ρ2 fun u ρ3 => match d with
  | .list ds => κ (.list (cutD ds l u)) ρ3
  | .tuple ds => κ (.tuple (cutD ds l u)) ρ3
  | _ => False
def rSlF (K : PySem.W.Frag) : V → Option Int → Option Int → Hp → VK → Prop := fun x lo hi H Q => ∃ a xs, x = .ref a ∧ SqT K H a xs ∧
  (HT.sIx xs.length 0 lo = 0 ∧ HT.sIx xs.length xs.length hi = xs.length → Q (.ref a) H) ∧ ∀ l o, H l = none → Fine o (cutV xs lo hi) → Q (.ref l) (upd H l o)
theorem sl_tupF : SlR X (rSlF X.K) := by
  intro pins s σ H x v vl vu lo hi sl Q I rx hs pl pu k
  obtain ⟨a, xs, rfl, sq, q0, q1⟩ := k
  by_cases hw : HT.sIx xs.length 0 lo = 0 ∧ HT.sIx xs.length xs.length hi = xs.length
  · exact sl_tupA pins s σ H _ v vl vu lo hi sl Q I rx hs pl pu ⟨a, xs, rfl, sq, q0, fun n => absurd hw n⟩
  · cases rx
    obtain ⟨us, rs, it, zl⟩ := I.tuple sq
    have ln : us.toArray.size = xs.length := by rw [List.size_toArray]; exact rs.length.symm
    refine ⟨"tuple", _, PyProof.Rows.slot_tuple_getitem.lookup, it.typeIs, HT.getItem_tuple_cut it hs pl pu (by rw [ln]; exact hw) ?_ (by rw [ln]; exact zl)⟩
    rw [ln]
    exact ⟨.ref s.heap.objs.size, _, I.laid (t' := s.toks) (fun b ob e => Heap.get?_push_of_some _ e) (Nat.le_refl _)
      (tup_new (Nat.le_trans (cutV_length xs lo hi) zl) ((rs.drop (HT.sIx xs.length 0 lo)).take (HT.sIx xs.length xs.length hi - HT.sIx xs.length 0 lo))), rfl, q1 _ _ (I.hok.fresh (Nat.le_refl _)) ⟨_, rfl, rfl⟩⟩
theorem qe_slice {lo hi : Option Expr} {ql qh : QO} {p2 : Pos} (h : PQ τ X e qa) (hl : PQO τ X lo ql) (hh : PQO τ X hi qh) : PQ τ X (.Subscript e (.Slice lo hi none p2) pos) (qSl qa ql qh) := by
  refine pe_imp _ (pe_slice (SlR.or sl_list sl_tupF) h hl hh) ?_
  rintro σ H Q ⟨F, ρ, C, R, κ, k, z⟩
  refine ⟨F, ρ, C, R, _, k, fun d ρ1 v C1 H1 k1 s1 R1 d1 => ⟨F, ρ1, C1, R1, _, k1, fun l ρ2 C2 H2 k2 s2 R2 => ⟨F, ρ2, C2, R2, _, k2, fun u ρ3 C3 H3 k3 s3 R3 => ?_⟩⟩⟩
  have s13 := same_trans s1 (same_trans s2 s3)
  have d3 := d1.mono (same_trans s2 s3)
  cases d3 with
  | lst ea _ ha =>
    refine .inl ⟨_, _, rfl, SqL.of (R3.sub _ _ ea), fun q nq => ?_⟩
    have cp := sub_none R3.sub nq
    exact z _ _ _ _ _ k3 (same_trans s13 (same_new cp)) (R3.lay nq) (.lst upd_same (R3.nsys nq) ((cut_all ha).mono (same_new cp)))
  | tup ea hd ha =>
    refine .inr ⟨_, _, rfl, sqF (R3.sub _ _ ea), fun w => ?_, fun q o nq fo => ?_⟩
    · rw [ha.length] at w
      dsimp only at k3
      rw [cut_whole w] at k3
      exact z _ _ _ _ _ k3 s13 R3 (.tup ea hd ha)
    · obtain ⟨ob, rfl, hd'⟩ := fo
      have cp := sub_none R3.sub nq
      exact z _ _ _ _ _ k3 (same_trans s13 (same_new cp)) (R3.lay nq) (.tup upd_same hd' ((cut_all ha).mono (same_new cp)))
  | _ => exact False.elim k3
/-! ### methods of an own list -/
section
variable {i : Nat} {apos : Pos}
def isLst (ρ : Ro) (i : Nat) : Bool := match ρ[i]? with
  | some (.own _ (.lst _)) => true
  | _ => false
theorem isLst_of {ρ : Ro} {i : Nat} (h : isLst ρ i = true) : ∃ r ds, ρ[i]? = some (.own r (.lst ds)) := by
  unfold isLst at h
  split at h
  · exact ⟨_, _, by assumption⟩
  · cases h
/-- what a method makes of the list and the arguments: its answer and the list then -/
abbrev DM := List PyData → List PyData → (PyData → List PyData → Prop) → Prop
def qMut (i : Nat) (as : QA) (r : DM) : QE := fun ρ κ => isLst ρ i = true ∧ as ρ fun xs ρ1 => match ρ1[i]? with
  | some (.own b (.lst ds)) => r ds xs fun d ds' => κ d (ρ1.set i (.own b (.lst ds')))
  | _ => False
def OkM (rm : V → List V → Hp → VK → Prop) (K : PySem.W.Frag) (r : DM) : Prop := ∀ (w : World) (C H : Hp) (l : Addr) (xs : List V) (ds : List PyData) (vs : List V) (es : List PyData) (P : PyData → List PyData → Prop) (Q : VK), Same C H → H l = some (.lst xs) → DaAll w C xs ds → DaAll w C vs es → r ds es P →
  (∀ d ds' v xs', P d ds' → Da w C v d → DaAll w C xs' ds' → Q v (upd H l (.lst xs'))) → rm (.ref l) vs H Q
theorem mut_core {rm : V → List V → Hp → VK → Prop} {r : DM} (ok : OkM rm X.K r) {F : Fm} {ρ1 : Ro} {C C1 : Hp} {σ : St} {H1 : Hp} {l : Addr} {vs : List V} {xs : List PyData} {κ : PyData → Ro → Prop} {Q : VK} (hv : σ[i]? = some (some (.ref l))) (s1 : Same C C1) (R1 : Rep (X.pk τ) F ρ1 C1 σ H1) (a1 : DaAll X.w C1 vs xs)
    (k1 : match ρ1[i]? with
      | some (.own b (.lst ds)) => r ds xs fun d ds' => κ d (ρ1.set i (.own b (.lst ds')))
      | _ => False) (z : ∀ d ρ' v C' H', κ d ρ' → Same C C' → Rep (X.pk τ) F ρ' C' σ H' → Da X.w C' v d → Q v H') : rm (.ref l) vs H1 Q := by
  split at k1
  · rename_i b ds e
    obtain ⟨p', e1, cp, us, e2, hd⟩ := R1.own e
    rw [hv] at e1; cases e1
    refine ok _ C1 H1 l us ds vs xs _ Q R1.sub e2 hd a1 k1 fun d ds' v xs' kd dv dx => ?_
    exact z _ _ _ _ _ kd s1 (R1.write e hv ⟨xs', upd_same, dx⟩) dv
  · exact False.elim k1
theorem mut_imp {rm : V → List V → Hp → VK → Prop} {r : DM} {n : Nat} {as : QA} (ok : OkM rm X.K r) : ∀ σ H Q, liftE (X.pk τ) (qMut i as r) σ H Q → tBM X.K "list" rm (tVar i) (liftN (X.pk τ) n as) σ H Q := by
  rintro σ H Q ⟨F, ρ, C, R, κ, ⟨k0, k⟩, z⟩
  obtain ⟨r0, ds0, e0⟩ := isLst_of k0
  obtain ⟨l, hv, _, us, hl, _⟩ := R.own e0
  refine ⟨_, hv, .inl ⟨rfl, _, SqL.of hl⟩, F, ρ, C, R, _, k, fun xs ρ1 vs C1 H1 k1 s1 R1 a1 _ => ?_⟩
  exact mut_core ok hv s1 R1 a1 k1 z
theorem mut0_imp {rm : V → List V → Hp → VK → Prop} {r : DM} (ok : OkM rm X.K r) : ∀ σ H Q, liftE (X.pk τ) (qMut i qaNil r) σ H Q → tBM0 X.K "list" rm (tVar i) σ H Q := by
  rintro σ H Q ⟨F, ρ, C, R, κ, ⟨k0, k⟩, z⟩
  obtain ⟨r0, ds0, e0⟩ := isLst_of k0
  obtain ⟨l, hv, _, us, hl, _⟩ := R.own e0
  exact ⟨_, hv, .inl ⟨rfl, _, SqL.of hl⟩, mut_core ok hv (same_refl _) R .nil k z⟩
def appendM : DM := fun ds xs P => match xs with
  | [d] => ds.length < 16000000 ∧ P .none (ds ++ [d])
  | _ => False
theorem ok_append : OkM rAppend X.K appendM := by
  intro w C H l xs ds vs es P Q s hl hd ha h z
  cases ha with
  | nil => exact False.elim h
  | cons a t =>
    cases t with
    | cons => exact False.elim h
    | nil => exact ⟨l, xs, _, rfl, rfl, hl, by rw [hd.length]; exact Nat.lt_of_lt_of_le h.1 (by rw [sizeLine_eq]; decide), z _ _ _ _ h.2 .non (hd.snoc a)⟩
def extendM : DM := fun ds xs P => match xs with
  | [.list es] => ds.length + es.length ≤ 16000000 ∧ P .none (ds ++ es)
  | [.tuple es] => ds.length + es.length ≤ 16000000 ∧ P .none (ds ++ es)
  | _ => False
abbrev rExtA (K : PySem.W.Frag) : V → List V → Hp → VK → Prop := fun x vs H Q => rExtend x vs H Q ∨ Fu.rExtT K x vs H Q
theorem mt_extA : MtM X "list.extend" (rExtA X.K) := fun pins s σ H x xs v us Q I rx rs h => h.elim (mt_extend pins s σ H x xs v us Q I rx rs) (Fu.mt_extT pins s σ H x xs v us Q I rx rs)
theorem ok_extend : OkM (rExtA X.K) X.K extendM := by
  intro w C H l xs ds vs es P Q s hl hd ha h z
  cases ha with
  | nil => exact False.elim h
  | cons a t =>
    cases t with
    | cons => cases a <;> exact False.elim h
    | nil =>
      cases a with
      | lst e _ hb => exact .inl ⟨l, _, xs, _, rfl, rfl, hl, s _ _ e, by rw [hd.length, hb.length]; exact line_le h.1, z _ _ _ _ h.2 .non (hd.append hb)⟩
      | tup e _ hb => exact .inr ⟨l, _, xs, _, rfl, rfl, hl, sqF (s _ _ e), by rw [hd.length, hb.length]; exact line_le h.1, z _ _ _ _ h.2 .non (hd.append hb)⟩
      | _ => exact False.elim h
def popM : DM := fun ds xs P => match xs with
  | [] => match ds.getLast? with
    | some d => P d ds.dropLast
    | none => False
  | _ => False
theorem DaAll.dropLast {C : Hp} {vs : List V} {ds : List PyData} (h : DaAll w C vs ds) : DaAll w C vs.dropLast ds.dropLast := by
  rw [List.dropLast_eq_take, List.dropLast_eq_take, h.length]; exact h.take _
theorem ok_pop : OkM rPop X.K popM := by
  intro w C H l xs ds vs es P Q s hl hd ha h z
  cases ha with
  | cons => exact False.elim h
  | nil =>
    simp only [popM] at h
    split at h
    · rename_i d e
      rw [List.getLast?_eq_getElem?, ← hd.length] at e
      obtain ⟨v, hv, dv⟩ := hd.put e
      exact ⟨l, xs, v, rfl, rfl, hl, hv, z _ _ _ _ h dv hd.dropLast⟩
    · exact False.elim h
def popAtM : DM := fun ds xs P => match xs with
  | [.int k] => (0 ≤ k ∧ k ≤ 16000000) ∧ match ds[k.toNat]? with
    | some d => P d (ds.eraseIdx k.toNat)
    | none => False
  | _ => False
theorem DaAll.eraseIdx {C : Hp} : ∀ {vs : List V} {ds : List PyData} (n : Nat), DaAll w C vs ds → DaAll w C (vs.eraseIdx n) (ds.eraseIdx n)
  | _, _, _, .nil => .nil
  | _, _, 0, .cons _ t => t
  | _, _, n + 1, .cons a t => .cons a (DaAll.eraseIdx n t)
theorem ok_popAt : OkM rPopAt X.K popAtM := by
  intro w C H l xs ds vs es P Q s hl hd ha h z
  cases ha with
  | nil => exact False.elim h
  | cons a t =>
    cases t with
    | cons => cases a <;> exact False.elim h
    | nil =>
      cases a with
      | int k =>
        obtain ⟨⟨h0, h9⟩, h⟩ := h
        split at h
        · rename_i d e
          obtain ⟨v, hv, dv⟩ := hd.put e
          have hlt : k.toNat < xs.length := (List.getElem?_eq_some_iff.mp hv).1
          obtain ⟨j, rfl⟩ := Int.eq_ofNat_of_zero_le h0
          refine ⟨l, xs, _, j, v, rfl, rfl, hl, by omega, by omega, ?_, hv, z _ _ _ _ h dv (hd.eraseIdx _)⟩
          have h3 : j < xs.length := hlt
          unfold seqIndex?
          have n0 : ¬ ((j : Nat) : Int) < 0 := by omega
          simp only [n0, if_false]
          have c : (decide (0 ≤ ((j : Nat) : Int)) && decide (((j : Nat) : Int) < (xs.length : Int))) = true := by
            rw [Bool.and_eq_true]; exact ⟨decide_eq_true (by omega), decide_eq_true (by omega)⟩
          rw [if_pos c]; rfl
        · exact False.elim h
      | _ => exact False.elim h
section
variable {es : List Expr} {q : QA} {n : Nat}
theorem qe_append (ho : PE X a (tVar i)) (ha : PQN τ X (e :: es) n q) (hbase : attributeBase a "append" X.env (eval a X.env) = eval a X.env := by rfl)
    (hfew : ((backTo pos (starEach (e :: es) X.env)).all (fun x => !x.1) && (backToKw pos (keywordEach [] X.env)).all (fun x => x.1.isSome) && decide ((e :: es).length + ([] : List Keyword).length + (if ([] : List Keyword).isEmpty then 0 else 1) < 30)) = true := by rfl)
    (hline : (apos.endLine == pos.line) = true := by rfl) (hs : starEach (e :: es) X.env = (false, eval e X.env) :: starEach es X.env := by rfl) (hplain : (backTo pos (starEach es X.env)).any (·.1) = false := by rfl) :
    PQ τ X (.Call (.Attribute a "append" apos) (e :: es) [] pos) (qMut i q appendM) := pe_imp _ (pe_bm PySem.F.plainAttrs_list PySem.F.slot_list_append PySem.F.type_list_append mt_append ho ha hbase hfew hline hs hplain) (mut_imp ok_append)
theorem qe_extend (ho : PE X a (tVar i)) (ha : PQN τ X (e :: es) n q) (hbase : attributeBase a "extend" X.env (eval a X.env) = eval a X.env := by rfl)
    (hfew : ((backTo pos (starEach (e :: es) X.env)).all (fun x => !x.1) && (backToKw pos (keywordEach [] X.env)).all (fun x => x.1.isSome) && decide ((e :: es).length + ([] : List Keyword).length + (if ([] : List Keyword).isEmpty then 0 else 1) < 30)) = true := by rfl)
    (hline : (apos.endLine == pos.line) = true := by rfl) (hs : starEach (e :: es) X.env = (false, eval e X.env) :: starEach es X.env := by rfl) (hplain : (backTo pos (starEach es X.env)).any (·.1) = false := by rfl) :
    PQ τ X (.Call (.Attribute a "extend" apos) (e :: es) [] pos) (qMut i q extendM) := pe_imp _ (pe_bm PySem.F.plainAttrs_list PySem.F.slot_list_extend PySem.F.type_list_extend mt_extA ho ha hbase hfew hline hs hplain) (mut_imp ok_extend)
theorem qe_popAt (ho : PE X a (tVar i)) (ha : PQN τ X (e :: es) n q) (hbase : attributeBase a "pop" X.env (eval a X.env) = eval a X.env := by rfl)
    (hfew : ((backTo pos (starEach (e :: es) X.env)).all (fun x => !x.1) && (backToKw pos (keywordEach [] X.env)).all (fun x => x.1.isSome) && decide ((e :: es).length + ([] : List Keyword).length + (if ([] : List Keyword).isEmpty then 0 else 1) < 30)) = true := by rfl)
    (hline : (apos.endLine == pos.line) = true := by rfl) (hs : starEach (e :: es) X.env = (false, eval e X.env) :: starEach es X.env := by rfl) (hplain : (backTo pos (starEach es X.env)).any (·.1) = false := by rfl) :
    PQ τ X (.Call (.Attribute a "pop" apos) (e :: es) [] pos) (qMut i q popAtM) := pe_imp _ (pe_bm PySem.F.plainAttrs_list PySem.F.slot_list_pop PySem.F.type_list_pop mt_popAt ho ha hbase hfew hline hs hplain) (mut_imp ok_popAt)
theorem qe_pop (ho : PE X a (tVar i)) (hbase : attributeBase a "pop" X.env (eval a X.env) = eval a X.env := by rfl) (hline : (apos.endLine == pos.line) = true := by rfl) :
    PQ τ X (.Call (.Attribute a "pop" apos) [] [] pos) (qMut i qaNil popM) := pe_imp _ (pe_bm0 PySem.F.plainAttrs_list PySem.F.slot_list_pop PySem.F.type_list_pop mt_pop ho hbase hline) (mut0_imp ok_pop)
end
end
/-! ### isinstance -/
def tyD : PyData → String
  | .none => "NoneType" | .bool _ => "bool" | .int _ => "int" | .str _ => "str" | .list _ => "list" | .tuple _ => "tuple" | .dict _ => "dict"
/-- isinstance(x, T), T one of the built-in classes -/
def isiB (T : String) (d : PyData) : Bool := decide (tyD d = T) || (decide (T = "int") && decide (tyD d = "bool"))
def isiD (T : String) : PyData → (PyData → Prop) → Prop := fun d P => match d with
  | .dict ((.tuple _, _) :: _) => False
  | d => P (.bool (isiB T d))
def Plain (T : String) : Prop := T = "str" ∨ T = "tuple" ∨ T = "int" ∨ T = "bool" ∨ T = "list" ∨ T = "dict"
theorem kit_plain (K : PySem.W.Frag) {T : String} (h : Plain T) : ∀ d : PyData, PySem.W.kitOne K (.type (tyD d)) (.type T) = some (isiB T d) := by
  rcases h with rfl | rfl | rfl | rfl | rfl | rfl <;> intro d <;> cases d <;> rfl
theorem ty_bo {K : PySem.W.Frag} {C H : Hp} {v : V} {d : PyData} (s : Same C H) (h : Bo w C H v d) (nd : ∀ x y r, d ≠ .dict ((.tuple x, y) :: r)) : TyX K H v (.type (tyD d)) := by
  cases h with
  | non => exact .base .non
  | bl b => exact .base (.bl b)
  | int i => exact .base (.int i)
  | str x => exact .base (.str x)
  | lst e _ => exact .base (.lst e)
  | tup e _ _ => exact .fTuple (s _ _ e)
  | dic e _ _ =>
    rcases e with e | ⟨o, e⟩
    · exact .base (.dK e)
    · exact .fDict e
  | @dicT a o u zs rds e dt ks hk ne ha =>
    cases rds with
    | nil => exact absurd rfl ne
    | cons r rds => exact absurd rfl (nd _ _ _)
def rIsi (K : PySem.W.Frag) (T : String) : RN := fun xs H Q => ∃ (x : V) (t : String) (b : Bool), xs = [x, .ty T] ∧ TyX K H x (.type t) ∧ PySem.W.kitOne K (.type t) (.type T) = some b ∧ Q (.bl b) H
theorem call_isiT {T : String} : CallR X (.builtin "isinstance") (rIsi X.K T) := by
  intro pins s σ H xs us Q I r h
  obtain ⟨x, t, b, rfl, ty, k, q⟩ := h
  exact call_isi pins s σ H _ us Q I r ⟨x, .ty T, _, _, _, rfl, .ty _, ty, k, q⟩
theorem isi_no {d : PyData} {T : String} {P : PyData → Prop} (h : isiD T d P) : (∀ x y r, d ≠ .dict ((.tuple x, y) :: r)) ∧ P (.bool (isiB T d)) := by
  unfold isiD at h
  split at h
  · exact False.elim h
  · rename_i hn
    exact ⟨fun x y r e => hn _ _ _ e, h⟩
theorem qe_isi {T : String} {tn : Str} {p2 : Pos} (hT : Plain T) (hg : Gl X "isinstance") (hm : X.mg "isinstance" = none) (h : PQ τ X e qa) (ht : PE X (.Name tn p2) (tC (.ty T)))
    (he : starEach [e, .Name tn p2] X.env = (false, eval e X.env) :: starEach [.Name tn p2] X.env := by rfl) (hs2 : starEach [.Name tn p2] X.env = (false, eval (.Name tn p2) X.env) :: starEach [] X.env := by rfl) (hpl : (backTo pos (starEach [.Name tn p2] X.env)).any (·.1) = false := by rfl) :
    PQ τ X (.Call (.Name "isinstance" p) [e, .Name tn p2] [] pos) (qUn (isiD T) qa) := by
  refine pe_imp _ (pe_callB (call_isiT (T := T)) hg hm boot_isinstance (pa_cons h (pa_cons ht pa_nil hs2) he) (by decide) (by decide) he hpl) ?_
  rintro σ H Q ⟨F, ρ, C, R, κ, k, z⟩
  refine ⟨F, ρ, C, R, _, k, fun d ρ1 v C1 H1 k1 s1 R1 d1 => ?_⟩
  obtain ⟨nd, k2⟩ := isi_no k1
  exact ⟨v, tyD d, _, rfl, ty_bo R1.sub (d1.bo R1.sub) nd, kit_plain X.K hT d, z _ _ _ _ _ k2 s1 R1 (.bl _)⟩
end
/-! ### repr -/
section
variable {X : Cx} {τ : Tb} {pins : List (Addr × Obj)} {σ : St} {H : Hp} {s : Shared}
theorem kv_reads {P : Program} {w : World} {h : Heap} : ∀ {es : List DictEntry} {kvs : List (Key × Value)} {ks : List (Key × V)}, PySem.Pairs (mixKind P w) es kvs → KV ks kvs →
    ReadsAll h (es.map (·.key)) (ks.map fun kv => keyD kv.1) [] ∧ Vals (ks.map (·.2)) (es.map (·.val))
  | _, _, _, .nil, .nil => ⟨.nil, .nil⟩
  | _, _, _, .cons (e := e) (kv := kv) h1 h2 t, .cons (a := k) r t' => by
    obtain ⟨q1, q2⟩ := kv_reads (h := h) t t'
    have hk : keyIs kv.1 e.key = true := h1
    rw [← r.1] at hk
    have rd : Reads h e.key (keyD k.1) [] := by
      rcases keyIs_shape hk with ⟨i, u, e1, e2⟩ | ⟨x, u, e1, e2⟩
      · rw [e1, e2]; exact .int i u
      · rw [e1, e2]; exact .str x u
    exact ⟨ReadsAll.cons (as := []) (bs := []) rd q1, .cons (show RelV k.2 e.val by rw [h2]; exact r.2) q2⟩
theorem keys_reads {h : Heap} : ∀ {ks : List Key} {us : List Value}, Vals (ks.map kV) us → ReadsAll h us (ks.map keyD) []
  | [], _, .nil => .nil
  | k :: ks, _, .cons r t => by
    have rd : ∀ u, RelV (kV k) u → Reads h u (keyD k) [] := by
      intro u r
      cases k with
      | inl i => obtain ⟨t, rfl⟩ := r; exact .int i t
      | inr x => obtain ⟨t, rfl⟩ := r; exact .str x t
    exact ReadsAll.cons (as := []) (bs := []) (rd _ r) (keys_reads t)
theorem map_fst2 {κ : Type} {f : κ → PyData} : ∀ (es : List (κ × PyData)), (es.map fun e => (f e.1, e.2)).map (·.1) = (es.map (·.1)).map f := fun es => by rw [List.map_map, List.map_map]; rfl
theorem map_snd2 {κ : Type} {f : κ → PyData} : ∀ (es : List (κ × PyData)), (es.map fun e => (f e.1, e.2)).map (·.2) = es.map (·.2) := fun es => by rw [List.map_map]; rfl
theorem Da.reads (I : Inv X pins σ H s) {v : V} {d : PyData} (h : Da X.w H v d) : d.hasDict = false → ∀ u : Value, RelV v u → ∃ as, Reads s.heap u d as := by
  refine Da.rec (motive_1 := fun v d _ => d.hasDict = false → ∀ u : Value, RelV v u → ∃ as, Reads s.heap u d as) (motive_2 := fun vs ds _ => PyData.hasDictAll ds = false → ∀ us : List Value, Vals vs us → ∃ as, ReadsAll s.heap us ds as)
    ?_ ?_ ?_ ?_ ?_ ?_ ?_ ?_ ?_ ?_ h
  · intro _ u r
    cases (show u = Value.none from r)
    exact ⟨[], .none⟩
  · intro b _ u r
    cases (show u = Value.bool b from r)
    exact ⟨[], .bool b⟩
  · intro i _ u r
    obtain ⟨t, rfl⟩ := (show ∃ t, u = Value.int i t from r)
    exact ⟨[], .int i t⟩
  · intro x _ u r
    obtain ⟨t, rfl⟩ := (show ∃ t, u = Value.str x t from r)
    exact ⟨[], .str x t⟩
  · intro a xs ds e n _ ih nd u r
    cases (show u = Value.ref a from r)
    obtain ⟨_, its, m, rv, ho⟩ := (show ObjOk X.prog X.w H s.heap a (.lst xs) from I.hok a _ e)
    obtain ⟨as, q⟩ := ih (by simpa only [PyData.hasDict] using nd) its rv
    exact ⟨a :: as, .list ho rfl rfl (by simpa using q)⟩
  · intro a ob xs ds e _ _ ih nd u r
    cases (show u = Value.ref a from r)
    obtain ⟨_, its, rv, o, ho, hc, m, hd⟩ := (show ObjOk X.prog X.w H s.heap a (.tup xs) from (I.hok a _ e).2)
    obtain ⟨as, q⟩ := ih (by simpa only [PyData.hasDict] using nd) its rv
    exact ⟨as, .tuple ho hc hd (by simpa using q)⟩
  · intro a ob kvs es e hk hall ih nd
    simp only [PyData.hasDict] at nd
    cases nd
  · intro a ob u zs rds e dt ks hk ne hall ih nd
    simp only [PyData.hasDict] at nd
    cases nd
  · intro _ us r
    cases r
    exact ⟨[], .nil⟩
  · intro v vs d ds _ _ i1 i2 nd us r
    simp only [PyData.hasDictAll, Bool.or_eq_false_iff] at nd
    cases r with
    | cons r1 r2 =>
      obtain ⟨as, q1⟩ := i1 nd.1 _ r1
      obtain ⟨bs, q2⟩ := i2 nd.2 _ r2
      exact ⟨as ++ bs, .cons q1 q2⟩
/-- data that repr shows: what is shown has at most n signs, nested at most k deep -/
structure Shows (d : PyData) (n k : Nat) : Prop where
  can : d.showable = true
  few : d.shown.length ≤ n
  flat : d.depth ≤ k
  nodict : d.hasDict = false
abbrev Fits (d : PyData) : Prop := Shows d 16000000 60
def rRepr (X : Cx) : RN := fun xs H Q => ∃ (x : V) (d : PyData), xs = [x] ∧ Da X.w H x d ∧ Fits d ∧ Q (.str d.shown) H
theorem call_reprD (gd : X.A.guards = some []) (hu : X.A.units + 64 < cLine) : CallR X (.builtin "repr") (rRepr X) := by
  intro pins s σ H xs us Q I r h
  obtain ⟨x, d, rfl, hd, sh, q⟩ := h
  have hz : d.shown.length ≤ sizeLine := line_le sh.few
  have hdp := sh.flat
  cases r with
  | @cons _ u _ ur ru rn =>
    cases rn
    obtain ⟨as, rd⟩ := hd.reads I sh.nodict u ru
    have can := sh.can
    cases hd with
    | non =>
      cases (show u = Value.none from ru)
      exact PySem.P.repr_of_none ⟨.str _, H, I.tok _, ⟨_, rfl⟩, q⟩
    | bl b =>
      cases (show u = Value.bool b from ru)
      exact PySem.P.repr_of_bool ⟨.str _, H, I.tok _, ⟨_, rfl⟩, q⟩
    | int i =>
      obtain ⟨t, rfl⟩ := (show ∃ t, u = Value.int i t from ru)
      exact PySem.P.repr_of_int (by simpa [PyData.showable] using can) ⟨.str _, H, I.tok _, ⟨_, rfl⟩, q⟩
    | str x =>
      obtain ⟨t, rfl⟩ := (show ∃ t, u = Value.str x t from ru)
      exact PySem.P.repr_of_str ⟨.str _, H, I.tok _, ⟨_, rfl⟩, q⟩ hz
    | lst e n ha =>
      cases ru
      exact repr_of_reads' rd can (PyData.noDict_hsm sh.nodict) gd (by omega) (fun _ _ z => z) (fun h' t tk hk => ⟨.str _, H, I.kept hk, ⟨_, rfl⟩, q⟩) hz
    | tup e _ ha =>
      cases ru
      exact repr_of_reads' rd can (PyData.noDict_hsm sh.nodict) gd (by omega) (fun _ _ z => z) (fun h' t tk hk => ⟨.str _, H, I.kept hk, ⟨_, rfl⟩, q⟩) hz
    | dicT e dt ks hk ne ha =>
      have nd := sh.nodict
      simp only [PyData.hasDict] at nd
      cases nd
    | dic e k ha =>
      cases ru
      exact repr_of_reads' rd can (PyData.noDict_hsm sh.nodict) gd (by omega) (fun _ _ z => z) (fun h' t tk hk => ⟨.str _, H, I.kept hk, ⟨_, rfl⟩, q⟩) hz
end
section
variable {X : Cx} {τ : Tb} {pos p : Pos} {e : Expr} {q : QE}
def reprD : PyData → (PyData → Prop) → Prop := fun d P => Fits d ∧ P (.str d.shown)
theorem qe_repr (gd : X.A.guards = some []) (hu : X.A.units + 64 < cLine) (hg : Gl X "repr") (hm : X.mg "repr" = none) (h : PQ τ X e q) (he : starEach [e] X.env = (false, eval e X.env) :: starEach [] X.env := by rfl) (hpl : (backTo pos (starEach [] X.env)).any (·.1) = false := by rfl) :
    PQ τ X (.Call (.Name "repr" p) [e] [] pos) (qUn reprD q) := by
  refine pe_imp _ (pe_callB (call_reprD gd hu) hg hm (by decide +kernel) (pa_cons h pa_nil he) (by decide) (by decide) he hpl) ?_
  rintro σ H Q ⟨F, ρ, C, R, κ, k, z⟩
  refine ⟨F, ρ, C, R, _, k, fun d ρ1 v C1 H1 k1 s1 R1 d1 => ?_⟩
  exact ⟨v, d, rfl, d1.mono R1.sub, k1.1, z _ _ _ _ _ k1.2 s1 R1 (.str _)⟩
end
end L2.Pu

set_option Elab.async false
set_option linter.all false
set_option maxRecDepth 100000
set_option maxHeartbeats 4000000
/-! ## sorted(xs, key=lambda r: (len(r), r)), the items tuples of texts -/
namespace L2.Pu
open PySem PySem.Spec PyProof.Rows
/-- the key of a tuple of texts -/
def keyOfR (r : List Str) : PyData := .tuple [.int (r.length : Nat), .tuple (r.map PyData.str)]
def leR (a b : List Str) : Bool := PySem.W.dataLe false keyOfR a b
abbrev keyBody (y : Str) (p1 p2 p3 p4 p5 : Pos) (k : Nat) : Expr := .Tuple [.Call (.Name "len" p1) [.Name y p2] [] p3, .Name y p4] k p5
/-- the lambda's names: its own one is a local, len is global -/
structure KeySc (y : Str) (scope : Scope) : Prop where
  kind : scope.kind = .function
  co : scope.isCoroutine = false
  gen : scope.isGenerator = false
  cells : ∀ x ∈ scope.names, x.2 ≠ .cell
  free : ∀ x ∈ scope.names, x.2 ≠ .free
  own : scope.names.lookup y = some .local
  len : scope.names.lookup ("len" : Str) = some .globalImplicit
theorem strs_reads {h : Heap} : ∀ {r : List Str} {us : List Value}, Vals (r.map V.str) us → ReadsAll h us (r.map PyData.str) []
  | [], _, .nil => .nil
  | x :: r, _, .cons q t => by
    obtain ⟨tk, rfl⟩ := q
    exact ReadsAll.cons (as := []) (bs := []) (.str x tk) (strs_reads t)
section
variable {X : Cx} {pins : List (Addr × Obj)} {σ : St} {H : Hp} {s : Shared}
/-- the lambda called on a tuple of texts: all is kept, the key comes -/
theorem key_call {A : Around} {f c' : Addr} {pm ctv : Value} {params : Arguments} {scope : Scope} {y : Str} {p1 p2 p3 p4 p5 : Pos} {k : Nat} {h : Heap} {tk : Nat} {a : Addr} {r : List Str} (I : Inv X pins σ H s) (S : KeySc y scope) (hlen : X.mg "len" = none) (hdy : (y == ("__debug__" : Str)) = false)
    (hroom : A.depth < recursionLimit)
    (hf : s.heap.get? f = some (PySem.W.kla_obj "<lambda>" (X.env.qual ++ "<lambda>") params (keyBody y p1 p2 p3 p4 p5 k) scope (cloFrom X.env.cells scope.names []) pm c' ctv))
    (hc : H c' = some (LamX.CodeO c' (X.env.qual ++ "<lambda>"))) (hbind : ∀ v, bindArgs (PySem.W.kla_fn "<lambda>" (X.env.qual ++ "<lambda>") params (keyBody y p1 p2 p3 p4 p5 k) scope (cloFrom X.env.cells scope.names []) pm (.ref c') ctv) ⟨[v], []⟩ = pure [(y, v)])
    {ob : Obj} (ha : H a = some (.frz ob (.tup (r.map V.str)))) (kp : ∀ b o, s.heap.get? b = some o → h.get? b = some o) :
    wpAny (model X.prog X.w) A (call (.ref f) [.ref a]) (PySem.W.KeyPure (keyOfR r) { s with heap := h, toks := tk }) (fun _ _ => False) { s with heap := h, toks := tk } := by
  obtain ⟨hz, its, rv, tp⟩ := (show ObjOk X.prog X.w H s.heap a (.tup (r.map V.str)) from (I.hok a _ ha).2)
  obtain ⟨⟨oc, vs, t, hoc, hdc, hvc⟩, _, _⟩ := I.hok c' _ hc
  obtain ⟨mb, b1, b2⟩ := I.mod.blt
  have run : codeAny (model X.prog X.w) A (.call (.ref f) ⟨[.ref a], []⟩) (fun res s2 => match res with
      | .ok (.ret v) => PySem.W.KeyPure (keyOfR r) { s with heap := h, toks := tk } v s2
      | _ => False) { s with heap := h, toks := tk } := by
    refine PySem.W.kla_callFunE hroom (kp _ _ hf) rfl S.co S.gen rfl ⟨c', oc, vs, t, rfl, kp _ _ hoc, hdc, hvc⟩ ?_
    rw [hbind]
    refine wpAny_pure (wpAny_newFunctionEnv (fun x hx => S.cells x hx) (fun x hx => ?_) (fun h₁ hns hsb => ?_) S.kind)
    · have : x = (y, .ref a) := by simpa using hx
      rw [this]; exact S.own
    have kp1 : ∀ b o, h.get? b = some o → h₁.get? b = some o := fun b o e => hsb.extBut b o (Nat.ne_of_lt (Heap.lt_size e)) (Heap.get?_push_of_some _ e)
    have kp2 : ∀ b o, s.heap.get? b = some o → h₁.get? b = some o := fun b o e => kp1 b o (kp b o e)
    refine ⟨I.nolimit.keeps kp2, PySem.W.kla_codeExpr ?_⟩
    have kb : ∀ b o, X.base.get? b = some o → h₁.get? b = some o := fun b o e => kp2 b o (I.bk b o e)
    have name : ∀ (s3 : Shared) (pp : Pos) (Q : Value → Shared → Prop) (E : Value → Shared → Prop), s3.heap = h₁ → Q (.ref a) s3 → wpAny (model X.prog X.w) (A.deeper (newEnv scope h.objs.size mainGlobals (cloFrom X.env.cells scope.names []) (X.env.qual ++ "<lambda>" ++ ".<locals>.") (some f) (.ref c') none builtinsNs)) (eval (.Name y pp) (newEnv scope h.objs.size mainGlobals (cloFrom X.env.cells scope.names []) (X.env.qual ++ "<lambda>" ++ ".<locals>.") (some f) (.ref c') none builtinsNs)) Q E s3 := by
      intro s3 pp Q E e3 q
      refine wpAny_Name (wpAny_loadName_local S.kind S.own (by rw [e3]; exact hns) ?_ q) hdy
      simp
    have tup1 : IsTup h₁ a its.toArray := by
      obtain ⟨o, e, c, n, d⟩ := tp
      exact ⟨o, kp2 _ _ e, c, n, d⟩
    refine wpAny_Tuple_spliced (Calls.spliced_cons ?_)
    refine wpAny_Call_Name_kw (Calls.Name_function_global S.kind S.len (Calls.loadGlobal_builtin (I.mod.glob.keeps kb) hlen (b1.keeps kb) ((b2 "len" (by decide)).trans PySem.boot_len) ?_) (by decide))
    refine PyProof.Rows.callWith_builtin1 (Calls.spliced_cons (name _ p2 _ _ rfl (Calls.spliced_nil ?_))) rfl rfl
    have hlen2 : its.length = r.length := by rw [← rv.length, List.length_map]
    have hz2 : its.toArray.size < 2 ^ 63 := by
      have := line63
      rw [List.size_toArray, hlen2]
      rw [List.length_map] at hz
      omega
    refine len_tuple tup1 (by exact_mod_cast hz2) ?_
    refine Calls.spliced_cons (name _ p4 _ _ rfl (Calls.spliced_nil ⟨by show 2 ≤ sizeLine; decide, ?_⟩))
    refine ⟨_, _, rfl, fun b o e => Heap.get?_push_of_some _ (kp1 b o e), ?_⟩
    obtain ⟨o, e, c, n, d⟩ := tup1
    refine .tuple (as := []) (Heap.get?_push_size _ rfl) rfl rfl ?_
    refine ReadsAll.cons (as := []) (bs := []) ?_ (ReadsAll.cons (as := []) (bs := []) (.tuple (Heap.get?_push_of_some _ e) c d (by simpa using strs_reads rv)) .nil)
    rw [List.size_toArray, hlen2]
    exact .int _ _
  refine wpAny_call (codeAny_mono run fun res s2 hq => ?_)
  match res, hq with
  | .ok (.ret v), hq => exact hq
  | .ok .next, hq => exact hq.elim
  | .ok .brk, hq => exact hq.elim
  | .ok .cont, hq => exact hq.elim
  | .error _, hq => exact hq.elim
end
/-- how the tracked heap stands behind a lambda's making: as it was, or with one more code object, noted in the table at P -/
def LamAt (H H1 : Hp) (P c' : Addr) (q : Str) : Prop := H1 = H ∨ ∃ ps more, H P = some (.tbl ps) ∧ H c' = none ∧ H1 = upd (upd H P (.tbl (ps ++ more))) c' (LamX.CodeO c' q)
section
variable {X : Cx} {τ : Tb} {pins : List (Addr × Obj)} {σ : St} {H : Hp} {s : Shared}
/-- a def's own table of code objects: the one of its code object c is at P, and it is known -/
structure OwnTab (τ : Tb) (X : Cx) (c P : Addr) : Prop where
  tab : LamX.TabB X.base X.mg c P
  code : X.env.code = .ref c
  mem : (P, X.env.qual ++ "<lambda>") ∈ τ
  uni : ∀ p ∈ τ, p.1 = P → p.2 = X.env.qual ++ "<lambda>"
theorem lam_new {c P : Addr} {params : Arguments} {body : Expr} {scope : Scope} {pos : Pos} {E : Value → Shared → Prop} {Q : Value → Shared → Prop} (I : Inv X pins σ H s) (O : OwnTab τ X c P) (hT : LamX.Tabs τ H) (hdef : defaultsOf params X.env = ([], [])) (hfree : ∀ y ∈ scope.names, y.2 = .free → ∃ c, X.env.cells.lookup y.1 = some c)
    (go : ∀ (f c' : Addr) (pm ctv : Value) (H1 : Hp) (s' : Shared), Inv X pins σ H1 s' → LamAt H H1 P c' (X.env.qual ++ "<lambda>") → LamX.Tabs τ H1 → H1 c' = some (LamX.CodeO c' (X.env.qual ++ "<lambda>")) →
      s'.heap.get? f = some (PySem.W.kla_obj "<lambda>" (X.env.qual ++ "<lambda>") params body scope (cloFrom X.env.cells scope.names []) pm c' ctv) → Q (.ref f) s') :
    wpAny (model X.prog X.w) X.A (eval (.Lambda params body scope pos) X.env) Q E s := by
  obtain ⟨ps, tP, tOk, tCode⟩ := hT _ O.mem
  have oP : s.heap.get? P = some { cls := .none, data := .fields ps } := I.hok P _ tP
  have gl := I.mod.glob.keeps I.bk
  have bl : s.heap.BuiltinsAt X.mg P := O.tab.bm.keeps I.bk
  have hd := O.tab.code.keeps I.bk
  apply PySem.W.kla_eval hdef
  rcases found : codeAmong pos ps.toList with _ | cv
  · apply PySem.W.kla_makeFunction (mg := X.mg) (c := c) (P := P) (ps := ps) (closure_ok hfree) I.ok.glob gl O.code hd oP tOk found O.tab.gP bl
    intro c' ctv h' tk ext lo hi rec tab
    obtain ⟨c2, oc, vs, t, ec, oc1, oc2, oc3⟩ := rec
    cases ec
    have nC : H c' = none := I.hok.fresh lo
    have nPC : P ≠ c' := ne_of_none tP nC
    have listed : (ps ++ #[rawInt pos.line, rawInt pos.col, Value.ref c']).toList = ps.toList ++ [rawInt pos.line, rawInt pos.col, .ref c'] := by simp
    have J := LamX.inv_table (t' := tk) (more := #[rawInt pos.line, rawInt pos.col, .ref c']) (h' := h'.push (PySem.W.kla_obj "<lambda>" (X.env.qual ++ "<lambda>") params body scope (cloFrom X.env.cells scope.names []) ((X.mg "__name__").getD .none) c' ctv)) I tP
      (fun b o hb e => Heap.get?_push_of_some _ (ext b o hb e)) (Heap.get?_push_of_some _ tab) lo ⟨oc, vs, t, Heap.get?_push_of_some _ oc1, oc2, oc3⟩
    have stay : ∀ b q, H b = some (LamX.CodeO b q) → upd (upd H P (.tbl (ps ++ #[rawInt pos.line, rawInt pos.col, .ref c']))) c' (LamX.CodeO c' (X.env.qual ++ "<lambda>")) b = some (LamX.CodeO b q) := fun b q e => by
      have n1 : b ≠ P := fun z => by rw [z, tP] at e; exact LamX.codeO_ne ps (Option.some.inj e).symm
      rw [upd_ne (ne_of_none e nC), upd_ne n1]; exact e
    refine go h'.objs.size c' _ ctv _ _ J (.inr ⟨ps, _, tP, nC, rfl⟩) (fun x hx => ?_) upd_same (Heap.get?_push_size _ rfl)
    obtain ⟨qs, xP, xOk, xCode⟩ := hT x hx
    by_cases hp : x.1 = P
    · rw [hp, tP] at xP; cases xP
      refine ⟨_, by rw [hp, upd_ne nPC, upd_same], by rw [listed]; exact PySem.TriplesOk_snoc _ _ _ _ tOk, fun p' cv hcv => ?_⟩
      rw [listed] at hcv
      rcases LamX.among_app _ tOk hcv with z | z
      · obtain ⟨d, z1, z2⟩ := xCode p' cv z
        exact ⟨d, z1, stay _ _ z2⟩
      · exact ⟨c', z, by rw [O.uni x hx hp]; exact upd_same⟩
    · refine ⟨qs, by rw [upd_ne (ne_of_none xP nC), upd_ne hp]; exact xP, xOk, fun p' cv hcv => ?_⟩
      obtain ⟨d, z1, z2⟩ := xCode p' cv hcv
      exact ⟨d, z1, stay _ _ z2⟩
  · obtain ⟨c', ec, hc⟩ := tCode pos cv found
    subst ec
    apply PySem.W.kla_makeFunctionHit (mg := X.mg) (c := c) (P := P) (ps := ps) (closure_ok hfree) I.ok.glob gl O.code hd oP tOk found bl
    intro ctv h' tk ext lo
    exact go h'.objs.size c' _ ctv H _ (I.kept fun b o e => Heap.get?_push_of_some _ (ext b o e)) (.inl rfl) hT hc (Heap.get?_push_size _ rfl)
/-- .. of pure states -/
theorem Rep.lam {T : PK} {F : Fm} {ρ : Ro} {C : Hp} {H1 : Hp} {P c' : Addr} {q : Str} (R : Rep T F ρ C σ H) (h : LamAt H H1 P c' q) (t : LamX.Tabs T.tb H1) : Rep T F ρ C σ H1 := by
  rcases h with rfl | ⟨ps, more, hP, hc, rfl⟩
  · exact R
  have keep : ∀ b o, H b = some o → NoTb o → upd (upd H P (.tbl (ps ++ more))) c' (LamX.CodeO c' q) b = some o := fun b o e n => by
    have n1 : b ≠ P := fun z => by rw [z, hP] at e; exact n ps (Option.some.inj e).symm
    rw [upd_ne (ne_of_none e hc), upd_ne n1]; exact e
  refine ⟨R.c0, fun b o e => keep b o (R.sub b o e) (R.ctab b o e), fun b o k n hr => keep b o (R.keep b o k n hr) n, R.tbl, fun b qs k => ?_, R.ctab, t, R.new, fun x hx => ?_, R.sys, R.len, fun i s hs => ?_, R.apart⟩
  · by_cases e1 : b = c'
    · subst e1; rw [upd_same] at k; exact absurd (Option.some.inj k) (LamX.codeO_ne qs)
    · rw [upd_ne e1] at k
      by_cases e2 : b = P
      · rw [e2]; exact R.htb P ps hP
      · rw [upd_ne e2] at k; exact R.htb b qs k
  · obtain ⟨o, ho⟩ := R.refd x hx
    by_cases e1 : x.2 = c'
    · exact ⟨_, by rw [e1, upd_same]⟩
    · rw [upd_ne e1]
      by_cases e2 : x.2 = P
      · exact ⟨_, by rw [e2, upd_same]⟩
      · rw [upd_ne e2]; exact ⟨o, ho⟩
  · have hs' := R.slot i s hs
    cases s with
    | un => trivial
    | val d => exact hs'
    | scr ns => exact hs'
    | exc c d => exact hs'
    | fnc f c q σc vs => exact hs'
    | own r o =>
      obtain ⟨a, e1, e2, e3, e4⟩ := hs'
      obtain ⟨u, hu⟩ := e3.ex
      refine ⟨a, e1, e2, e3.mono (same_refl _) ?_, e4⟩
      rw [keep a u hu fun qs e => e3.notab.1 qs (by rw [← e]; exact hu), hu]
end
section
variable {X : Cx} {τ : Tb} {pos p kpos lpos : Pos} {e : Expr}
/-- a tuple of texts stands there -/
def Tx1 (H : Hp) (it : Addr × List Str) : Prop := ∃ ob : Obj, H it.1 = some (.frz ob (.tup (it.2.map V.str))) ∧ ob.dict = none
/-- sorted(e, key=lambda y: (len(y), y)) -/
def tSortL (τ : Tb) (te : TE) : TE := fun σ H Q => te σ H fun x H1 => LamX.Tabs τ H1 ∧ ∃ (a : Addr) (items : List (Addr × List Str)), x = .ref a ∧ H1 a = some (.lst (items.map fun it => V.ref it.1)) ∧ (∀ it ∈ items, Tx1 H1 it) ∧
  ∀ (H2 : Hp) (P c' q : Addr) (n : Str), LamAt H1 H2 P c' n → LamX.Tabs τ H2 → H2 q = none → Q (.ref q) (upd H2 q (.lst ((items.mergeSort fun x y => leR x.2 y.2).map fun it => V.ref it.1)))
theorem vals_refs : ∀ {its : List (Addr × List Str)} {us : List Value}, Vals (its.map fun it => V.ref it.1) us → us = its.map fun it => Value.ref it.1
  | [], _, .nil => rfl
  | it :: its, _, .cons r t => by rw [vals_refs t, show _ = Value.ref it.1 from r]; rfl
theorem alike_strs : ∀ (xs ys : List Str), PySem.W.alikeAll (xs.map PyData.str) (ys.map PyData.str) = true
  | [], [] => rfl
  | [], _ :: _ => rfl
  | _ :: _, [] => rfl
  | x :: xs, y :: ys => by simp only [List.map_cons, PySem.W.alikeAll, PySem.W.alike, alike_strs xs ys, Bool.and_self]
theorem each_refs : ∀ {its : List (Addr × List Str)}, PySem.W.EachIs (fun (v : Value) (it : Addr × List Str) => v = Value.ref it.1) (its.map fun it => Value.ref it.1) its
  | [] => .nil
  | it :: its => .cons rfl each_refs
theorem of_each : ∀ {vs : List Value} {its : List (Addr × List Str)}, PySem.W.EachIs (fun (v : Value) (it : Addr × List Str) => v = Value.ref it.1) vs its → Vals (its.map fun it => V.ref it.1) vs
  | _, _, .nil => .nil
  | _, _, .cons r t => .cons r (of_each t)
theorem pe_sortL {te : TE} {c P : Addr} {params : Arguments} {scope : Scope} {y : Str} {p1 p2 p3 p4 p5 : Pos} {k : Nat} (hu : X.A.units + 64 < cLine) (hroom : X.A.depth < recursionLimit) (hg : Gl X "sorted") (hm : X.mg "sorted" = none) (hlen : X.mg "len" = none) (O : OwnTab τ X c P) (S : KeySc y scope)
    (hdy : (y == ("__debug__" : Str)) = false) (hdef : defaultsOf params X.env = ([], []))
    (hbind : ∀ (q : Str) (cl : List (Str × Addr)) (pm cv ctv v : Value), bindArgs (PySem.W.kla_fn "<lambda>" q params (keyBody y p1 p2 p3 p4 p5 k) scope cl pm cv ctv) ⟨[v], []⟩ = pure [(y, v)])
    (he : PE X e te) (hs1 : starEach [e] X.env = (false, eval e X.env) :: starEach [] X.env := by rfl) (hb : backTo pos (starEach [e] X.env) = (false, eval e X.env) :: backTo pos (starEach [] X.env) := by rfl) (hpl : (backTo pos (starEach [e] X.env)).any (·.1) = false := by rfl) :
    PE X (.Call (.Name "sorted" p) [e] [⟨some "key", .Lambda params (keyBody y p1 p2 p3 p4 p5 k) scope lpos, kpos⟩] pos) (tSortL τ te) := by
  refine ⟨fun pins s σ H Q I h => ?_⟩
  refine wpAny_Call_Name_kw (ld_blt I hg hm (show bootBuiltins "sorted" = some (.builtin "sorted") by decide +kernel) ?_)
  have args : PA X [e] (tCons te tNil) := pa_cons he pa_nil hs1
  refine PyProof.Rows.callWith_kw (thn (args.run pos pins s σ H (fun vs H1 => match vs with
    | [x] => LamX.Tabs τ H1 ∧ ∃ (a : Addr) (items : List (Addr × List Str)), x = .ref a ∧ H1 a = some (.lst (items.map fun it => V.ref it.1)) ∧ (∀ it ∈ items, Tx1 H1 it) ∧
        ∀ (H2 : Hp) (P c' q : Addr) (n : Str), LamAt H1 H2 P c' n → LamX.Tabs τ H2 → H2 q = none → Q (.ref q) (upd H2 q (.lst ((items.mergeSort fun x y => leR x.2 y.2).map fun it => V.ref it.1)))
    | _ => False) I h) fun us s1 g1 => ?_) hb hpl rfl rfl
  obtain ⟨vs, H1, I1, r1, g1⟩ := g1
  match vs, r1, g1 with
  | [x], r1, g1 =>
    obtain ⟨tabs, a, items, rfl, hl, ht, q⟩ := g1
    obtain ⟨u, rfl, ru⟩ := vals1 r1
    obtain rfl : u = Value.ref a := ru
    show wpAny _ _ (evalAll [do let v ← eval (.Lambda params (keyBody y p1 p2 p3 p4 p5 k) scope lpos) X.env; standAt pos; pure v]) _ _ s1
    refine wpAny_evalAll_cons (wpAny_bind (lam_new I1 O tabs hdef (fun z hz e => absurd e (S.free z hz)) fun f c' pm ctv H2 s2 I2 at2 tabs2 hc2 hf2 => wpAny_bind (wpAny_standAt (wpAny_pure (wpAny_evalAll_nil ?_)))))
    have keepT : ∀ b o, H1 b = some o → NoTb o → H2 b = some o := fun b o e n => by
      rcases at2 with rfl | ⟨ps, more, hP, hc, rfl⟩
      · exact e
      · have n1 : b ≠ P := fun z => by rw [z, hP] at e; exact n ps (Option.some.inj e).symm
        rw [upd_ne (ne_of_none e hc), upd_ne n1]; exact e
    have hl2 := keepT _ _ hl fun _ z => nomatch z
    obtain ⟨hz, its, ep, rv, ho⟩ := (show ObjOk X.prog X.w H2 s2.heap a (.lst (items.map fun it => V.ref it.1)) from I2.hok a _ hl2)
    have ei := vals_refs rv
    subst ei
    have hz' : items.length ≤ sizeLine := by rw [List.length_map] at hz; exact hz
    show wpAny _ _ (call (.builtin "sorted") [.ref a] [(Str.ofString "key", .ref f)]) _ _ s2
    refine PySem.W.sorted_key_data (b := false) (fun it : Addr × List Str => keyOfR it.2) ⟨_, ho, rfl, ep, rfl⟩ each_refs (PySem.W.AllAlike.of fun b b' => ?_) (PySem.W.Sortable.tuples fun _ => ⟨_, _, rfl⟩) hz' (fun it _ => ?_) (PyProof.Rows.ksk_s1 _ _) (fun _ => PyProof.Rows.ksk_l1 _ _) (fun _ => PyProof.Rows.ksk_t1 _ _)
      (fun v it hR hx h tk kp => ?_) fun out cc h' tk kp fresh hD hlen eo => ?_
    · simp only [keyOfR, PySem.W.alike, PySem.W.alikeAll, alike_strs, Bool.and_self]
    · have hd : (keyOfR it.2).depth ≤ 2 := by
        have : ∀ r : List Str, PyData.depthAll (r.map PyData.str) = 0 := fun r => by
          induction r with
          | nil => rfl
          | cons x r ih => simp only [List.map_cons, PyData.depthAll, PyData.depth, ih]; rfl
        simp only [keyOfR, PyData.depth, PyData.depthAll, this]; decide
      omega
    · subst hR
      obtain ⟨ob, hob, _⟩ := ht it hx
      exact key_call I2 S hlen hdy hroom hf2 hc2 (fun v => hbind _ _ _ _ _ v) (keepT _ _ hob fun _ z => nomatch z) kp
    · have rs := of_each eo
      have hn : H2 (s2.heap.objs.size + 1) = none := I2.hok.fresh (Nat.le_succ _)
      refine ⟨.ref (s2.heap.objs.size + 1), _, I2.laid (t' := tk) (o := .lst ((items.mergeSort fun x y => leR x.2 y.2).map fun it => V.ref it.1)) kp (Nat.le_succ _) ⟨?_, out, cc, rs, hD⟩, rfl, q H2 P c' _ _ at2 tabs2 hn⟩
      rw [List.length_map, List.length_mergeSort]; exact hz'
/-- sorted of a list of tuples of texts, by their length, then ascending -/
def sortR (rs : List (List Str)) : List (List Str) := rs.mergeSort leR
def tupS (r : List Str) : PyData := .tuple (r.map PyData.str)
def qfSortL (q : QE) : QF := fun ρ κ => q ρ fun d ρ1 => ∃ rs : List (List Str), d = .list (rs.map tupS) ∧ κ (.lst ((sortR rs).map tupS)) ρ1
theorem items_of {C : Hp} : ∀ {rs : List (List Str)} {vs : List V}, DaAll w C vs (rs.map tupS) → ∃ items : List (Addr × List Str), items.map (·.2) = rs ∧ vs = items.map (fun it => V.ref it.1) ∧ ∀ it ∈ items, Tx1 C it
  | [], _, h => by cases h; exact ⟨[], rfl, rfl, fun _ z => nomatch z⟩
  | r :: rs, _, h => by
    cases h with
    | cons a t =>
      obtain ⟨items, e1, e2, e3⟩ := items_of t
      cases a with
      | @tup b ob xs ds e hd ha =>
        rw [strs_of ha] at e
        refine ⟨(b, r) :: items, by rw [List.map_cons, e1], by rw [List.map_cons, e2], fun it hit => ?_⟩
        rcases List.mem_cons.mp hit with rfl | hit
        · exact ⟨ob, e, hd⟩
        · exact e3 it hit
theorem sort_snd (items : List (Addr × List Str)) : (items.mergeSort fun x y => leR x.2 y.2).map (·.2) = sortR (items.map (·.2)) := by
  unfold sortR
  exact (List.map_mergeSort (r := fun x y : Addr × List Str => leR x.2 y.2) (s := leR) (f := (·.2)) (fun _ _ _ _ => rfl))
theorem da_items {C : Hp} : ∀ {items : List (Addr × List Str)}, (∀ it ∈ items, Tx1 C it) → DaAll w C (items.map fun it => V.ref it.1) ((items.map (·.2)).map tupS)
  | [], _ => .nil
  | it :: items, h => .cons (by obtain ⟨ob, e, n⟩ := h it List.mem_cons_self; exact .tup e n (da_strs _)) (da_items fun x hx => h x (List.mem_cons_of_mem _ hx))
theorem qf_sortL {q : QE} {c P : Addr} {params : Arguments} {scope : Scope} {y : Str} {p1 p2 p3 p4 p5 : Pos} {k : Nat} (hu : X.A.units + 64 < cLine) (hroom : X.A.depth < recursionLimit) (hg : Gl X "sorted") (hm : X.mg "sorted" = none) (hlen : X.mg "len" = none) (O : OwnTab τ X c P) (S : KeySc y scope)
    (hdy : (y == ("__debug__" : Str)) = false) (hdef : defaultsOf params X.env = ([], []))
    (hbind : ∀ (q : Str) (cl : List (Str × Addr)) (pm cv ctv v : Value), bindArgs (PySem.W.kla_fn "<lambda>" q params (keyBody y p1 p2 p3 p4 p5 k) scope cl pm cv ctv) ⟨[v], []⟩ = pure [(y, v)])
    (he : PQ τ X e q) (hs1 : starEach [e] X.env = (false, eval e X.env) :: starEach [] X.env := by rfl) (hb : backTo pos (starEach [e] X.env) = (false, eval e X.env) :: backTo pos (starEach [] X.env) := by rfl) (hpl : (backTo pos (starEach [e] X.env)).any (·.1) = false := by rfl) :
    PQF τ X (.Call (.Name "sorted" p) [e] [⟨some "key", .Lambda params (keyBody y p1 p2 p3 p4 p5 k) scope lpos, kpos⟩] pos) (qfSortL q) := by
  refine pe_imp _ (pe_sortL hu hroom hg hm hlen O S hdy hdef hbind he hs1 hb hpl) ?_
  rintro σ H Q ⟨F, ρ, C, R, κ, k, z⟩
  refine ⟨F, ρ, C, R, _, k, fun d ρ1 v C1 H1 k1 s1 R1 d1 => ⟨R1.tabs, ?_⟩⟩
  obtain ⟨rs, rfl, k1⟩ := k1
  cases d1 with
  | @lst a xs ds ea na ha =>
    obtain ⟨items, e1, rfl, e3⟩ := items_of ha
    refine ⟨a, items, rfl, R1.sub _ _ ea, fun it hit => (by obtain ⟨ob, e, n⟩ := e3 it hit; exact ⟨ob, R1.sub _ _ e, n⟩), fun H2 P c' q n at2 tabs2 nq => ?_⟩
    have R2 := R1.lam at2 tabs2
    refine z _ _ _ _ _ k1 s1 (R2.layH nq) ⟨_, upd_same, ?_⟩ (R2.new_fresh nq) (R2.ref_ne nq)
    rw [← e1, ← sort_snd]
    exact da_items fun it hit => e3 it ((List.mergeSort_perm items _).mem_iff.mp hit)
end
end L2.Pu
/-! ## sorted(xs, key=f), where f is a def: return (len(r), r) -/
namespace L2.Pu
open PySem PySem.Spec PyProof.Rows
/-- a def that returns the length and the tuple -/
structure KeyDef (K : PySem.W.Frag) (mg : Str → Option Value) (x : Str) : Prop where
  ex : ∃ (f : Addr) (fd : FuncData) (st : Stmt) (y : Str) (p1 p2 p3 p4 p5 p6 : Pos) (k : Nat), Fun K x x st f fd ∧ mg x = some (.ref f) ∧ KeySc y (defScope st) ∧ defBody st = [.Return (some (keyBody y p1 p2 p3 p4 p5 k)) p6] ∧ Binds K fd [y] [] ∧ (y == ("__debug__" : Str)) = false
section
variable {X : Cx} {pins : List (Addr × Obj)} {σ : St} {H : Hp} {s : Shared}
theorem keyF_call {A : Around} {f : Addr} {fd : FuncData} {x : Str} {st : Stmt} {y : Str} {p1 p2 p3 p4 p5 p6 : Pos} {k : Nat} {h : Heap} {tk : Nat} {a : Addr} {r : List Str} (I : Inv X pins σ H s) (F : Fun X.K x x st f fd) (S : KeySc y (defScope st)) (hbd : defBody st = [.Return (some (keyBody y p1 p2 p3 p4 p5 k)) p6])
    (hbind : Binds X.K fd [y] []) (hlen : X.mg "len" = none) (hdy : (y == ("__debug__" : Str)) = false) (hroom : A.depth < recursionLimit)
    {ob : Obj} (ha : H a = some (.frz ob (.tup (r.map V.str)))) (kp : ∀ b o, s.heap.get? b = some o → h.get? b = some o) :
    wpAny (model X.prog X.w) A (call (.ref f) [.ref a]) (PySem.W.KeyPure (keyOfR r) { s with heap := h, toks := tk }) (fun _ _ => False) { s with heap := h, toks := tk } := by
  obtain ⟨hz, its, rv, tp⟩ := (show ObjOk X.prog X.w H s.heap a (.tup (r.map V.str)) from (I.hok a _ ha).2)
  obtain ⟨oc, od, kV, doc, pm, an, cdv, ct, osl, rfl, lk, hcd⟩ := F.ex
  obtain ⟨mb, b1, b2⟩ := I.mod.blt
  have inK : X.K.In s.heap := I.mod.kin.keeps I.bk
  have inH : X.K.In h := fun b o e => kp b o (inK b o e)
  have run : codeAny (model X.prog X.w) A (.call (.ref f) ⟨[.ref a], []⟩) (fun res s2 => match res with
      | .ok (.ret v) => PySem.W.KeyPure (keyOfR r) { s with heap := h, toks := tk } v s2
      | _ => False) { s with heap := h, toks := tk } := by
    refine codeAny_call_function hroom (inH _ _ lk) rfl S.co S.gen rfl (PySem.W.codeRec_of inH hcd) (hbind { s with heap := h, toks := tk } [.ref a] inH rfl _ _ _ _ ?_)
    refine wpAny_newFunctionEnv (fun x hx => S.cells x hx) (fun x hx => ?_) (fun h₁ hns hsb => ?_) S.kind
    · have : x = (y, .ref a) := by simpa using hx
      rw [this]; exact S.own
    have kp1 : ∀ b o, h.get? b = some o → h₁.get? b = some o := fun b o e => hsb.extBut b o (Nat.ne_of_lt (Heap.lt_size e)) (Heap.get?_push_of_some _ e)
    have kp2 : ∀ b o, s.heap.get? b = some o → h₁.get? b = some o := fun b o e => kp1 b o (kp b o e)
    refine ⟨I.nolimit.keeps kp2, codeAny_func ?_⟩
    have kb : ∀ b o, X.base.get? b = some o → h₁.get? b = some o := fun b o e => kp2 b o (I.bk b o e)
    have name : ∀ (s3 : Shared) (pp : Pos) (Q : Value → Shared → Prop) (E : Value → Shared → Prop), s3.heap = h₁ → Q (.ref a) s3 → wpAny (model X.prog X.w) (A.deeper (newEnv (defScope st) h.objs.size mainGlobals [] (x ++ ".<locals>.") (some f) cdv none builtinsNs)) (eval (.Name y pp) (newEnv (defScope st) h.objs.size mainGlobals [] (x ++ ".<locals>.") (some f) cdv none builtinsNs)) Q E s3 := by
      intro s3 pp Q E e3 q
      refine wpAny_Name (wpAny_loadName_local S.kind S.own (by rw [e3]; exact hns) ?_ q) hdy
      simp
    have tup1 : IsTup h₁ a its.toArray := by
      obtain ⟨o, e, c, n, d⟩ := tp
      exact ⟨o, kp2 _ _ e, c, n, d⟩
    rw [hbd]
    refine wpAny_execs_cons (wpAny_Return_some ?_)
    refine wpAny_Tuple_spliced (Calls.spliced_cons ?_)
    refine wpAny_Call_Name_kw (Calls.Name_function_global S.kind S.len (Calls.loadGlobal_builtin (I.mod.glob.keeps kb) hlen (b1.keeps kb) ((b2 "len" (by decide)).trans PySem.boot_len) ?_) (by decide))
    refine PyProof.Rows.callWith_builtin1 (Calls.spliced_cons (name _ p2 _ _ rfl (Calls.spliced_nil ?_))) rfl rfl
    have hlen2 : its.length = r.length := by rw [← rv.length, List.length_map]
    have hz2 : its.toArray.size < 2 ^ 63 := by
      have := line63
      rw [List.size_toArray, hlen2]
      rw [List.length_map] at hz
      omega
    refine len_tuple tup1 (by exact_mod_cast hz2) ?_
    refine Calls.spliced_cons (name _ p4 _ _ rfl (Calls.spliced_nil ⟨by show 2 ≤ sizeLine; decide, ?_⟩))
    refine ⟨_, _, rfl, fun b o e => Heap.get?_push_of_some _ (kp1 b o e), ?_⟩
    obtain ⟨o, e, c, n, d⟩ := tup1
    refine .tuple (as := []) (Heap.get?_push_size _ rfl) rfl rfl ?_
    refine ReadsAll.cons (as := []) (bs := []) ?_ (ReadsAll.cons (as := []) (bs := []) (.tuple (Heap.get?_push_of_some _ e) c d (by simpa using strs_reads rv)) .nil)
    rw [List.size_toArray, hlen2]
    exact .int _ _
  refine wpAny_call (codeAny_mono run fun res s2 hq => ?_)
  match res, hq with
  | .ok (.ret v), hq => exact hq
  | .ok .next, hq => exact hq.elim
  | .ok .brk, hq => exact hq.elim
  | .ok .cont, hq => exact hq.elim
  | .error _, hq => exact hq.elim
end
section
variable {X : Cx} {τ : Tb} {pos p kpos npos : Pos} {e : Expr}
/-- sorted(e, key=f) -/
def tSortF (te : TE) : TE := fun σ H Q => te σ H fun x H1 => ∃ (a : Addr) (items : List (Addr × List Str)), x = .ref a ∧ H1 a = some (.lst (items.map fun it => V.ref it.1)) ∧ (∀ it ∈ items, Tx1 H1 it) ∧
  ∀ (q : Addr), H1 q = none → Q (.ref q) (upd H1 q (.lst ((items.mergeSort fun x y => leR x.2 y.2).map fun it => V.ref it.1)))
theorem pe_sortF {te : TE} {x : Str} (hu : X.A.units + 64 < cLine) (hroom : X.A.depth < recursionLimit) (hg : Gl X "sorted") (hm : X.mg "sorted" = none) (hlen : X.mg "len" = none) (KD : KeyDef X.K X.mg x) (hgx : Gl X x)
    (he : PE X e te) (hs1 : starEach [e] X.env = (false, eval e X.env) :: starEach [] X.env := by rfl) (hb : backTo pos (starEach [e] X.env) = (false, eval e X.env) :: backTo pos (starEach [] X.env) := by rfl) (hpl : (backTo pos (starEach [e] X.env)).any (·.1) = false := by rfl) (hxd : (x == ("__debug__" : Str)) = false := by decide) :
    PE X (.Call (.Name "sorted" p) [e] [⟨some "key", .Name x npos, kpos⟩] pos) (tSortF te) := by
  obtain ⟨f, fd, st, y, p1, p2, p3, p4, p5, p6, k, F, hmx, S, hbd, hbind, hdy⟩ := KD.ex
  refine ⟨fun pins s σ H Q I h => ?_⟩
  refine wpAny_Call_Name_kw (ld_blt I hg hm (show bootBuiltins "sorted" = some (.builtin "sorted") by decide +kernel) ?_)
  have args : PA X [e] (tCons te tNil) := pa_cons he pa_nil hs1
  refine PyProof.Rows.callWith_kw (thn (args.run pos pins s σ H (fun vs H1 => match vs with
    | [x] => ∃ (a : Addr) (items : List (Addr × List Str)), x = .ref a ∧ H1 a = some (.lst (items.map fun it => V.ref it.1)) ∧ (∀ it ∈ items, Tx1 H1 it) ∧
        ∀ (q : Addr), H1 q = none → Q (.ref q) (upd H1 q (.lst ((items.mergeSort fun x y => leR x.2 y.2).map fun it => V.ref it.1)))
    | _ => False) I h) fun us s1 g1 => ?_) hb hpl rfl rfl
  obtain ⟨vs, H1, I1, r1, g1⟩ := g1
  match vs, r1, g1 with
  | [x0], r1, g1 =>
    obtain ⟨a, items, rfl, hl, ht, q⟩ := g1
    obtain ⟨u, rfl, ru⟩ := vals1 r1
    obtain rfl : u = Value.ref a := ru
    show wpAny _ _ (evalAll [do let v ← eval (.Name x npos) X.env; standAt pos; pure v]) _ _ s1
    refine wpAny_evalAll_cons (wpAny_bind (ld_glob I1 hgx hmx (wpAny_bind (wpAny_standAt (wpAny_pure (wpAny_evalAll_nil ?_)))) hxd))
    obtain ⟨hz, its, ep, rv, ho⟩ := (show ObjOk X.prog X.w H1 s1.heap a (.lst (items.map fun it => V.ref it.1)) from I1.hok a _ hl)
    have ei := vals_refs rv
    subst ei
    have hz' : items.length ≤ sizeLine := by rw [List.length_map] at hz; exact hz
    show wpAny _ _ (call (.builtin "sorted") [.ref a] [(Str.ofString "key", .ref f)]) _ _ s1
    refine PySem.W.sorted_key_data (b := false) (fun it : Addr × List Str => keyOfR it.2) ⟨_, ho, rfl, ep, rfl⟩ each_refs (PySem.W.AllAlike.of fun b b' => ?_) (PySem.W.Sortable.tuples fun _ => ⟨_, _, rfl⟩) hz' (fun it _ => ?_) (PyProof.Rows.ksk_s1 _ _) (fun _ => PyProof.Rows.ksk_l1 _ _) (fun _ => PyProof.Rows.ksk_t1 _ _)
      (fun v it hR hx h tk kp => ?_) fun out cc h' tk kp fresh hD hlen eo => ?_
    · simp only [keyOfR, PySem.W.alike, PySem.W.alikeAll, alike_strs, Bool.and_self]
    · have hd : (keyOfR it.2).depth ≤ 2 := by
        have : ∀ r : List Str, PyData.depthAll (r.map PyData.str) = 0 := fun r => by
          induction r with
          | nil => rfl
          | cons x r ih => simp only [List.map_cons, PyData.depthAll, PyData.depth, ih]; rfl
        simp only [keyOfR, PyData.depth, PyData.depthAll, this]; decide
      omega
    · subst hR
      obtain ⟨ob, hob, _⟩ := ht it hx
      exact keyF_call I1 F S hbd hbind hlen hdy hroom hob kp
    · have rs := of_each eo
      have hn : H1 (s1.heap.objs.size + 1) = none := I1.hok.fresh (Nat.le_succ _)
      refine ⟨.ref (s1.heap.objs.size + 1), _, I1.laid (t' := tk) (o := .lst ((items.mergeSort fun x y => leR x.2 y.2).map fun it => V.ref it.1)) kp (Nat.le_succ _) ⟨?_, out, cc, rs, hD⟩, rfl, q _ hn⟩
      rw [List.length_map, List.length_mergeSort]; exact hz'
theorem qf_sortF {q : QE} {x : Str} (KD : KeyDef X.K X.mg x) (hu : X.A.units + 64 < cLine) (hroom : X.A.depth < recursionLimit) (hg : Gl X "sorted") (hm : X.mg "sorted" = none) (hlen : X.mg "len" = none) (hgx : Gl X x)
    (he : PQ τ X e q) (hs1 : starEach [e] X.env = (false, eval e X.env) :: starEach [] X.env := by rfl) (hb : backTo pos (starEach [e] X.env) = (false, eval e X.env) :: backTo pos (starEach [] X.env) := by rfl) (hpl : (backTo pos (starEach [e] X.env)).any (·.1) = false := by rfl) (hxd : (x == ("__debug__" : Str)) = false := by decide) :
    PQF τ X (.Call (.Name "sorted" p) [e] [⟨some "key", .Name x npos, kpos⟩] pos) (qfSortL q) := by
  refine pe_imp _ (pe_sortF hu hroom hg hm hlen KD hgx he hs1 hb hpl hxd) ?_
  rintro σ H Q ⟨F, ρ, C, R, κ, k, z⟩
  refine ⟨F, ρ, C, R, _, k, fun d ρ1 v C1 H1 k1 s1 R1 d1 => ?_⟩
  obtain ⟨rs, rfl, k1⟩ := k1
  cases d1 with
  | @lst a xs ds ea na ha =>
    obtain ⟨items, e1, rfl, e3⟩ := items_of ha
    refine ⟨a, items, rfl, R1.sub _ _ ea, fun it hit => (by obtain ⟨ob, e, n⟩ := e3 it hit; exact ⟨ob, R1.sub _ _ e, n⟩), fun q nq => ?_⟩
    refine z _ _ _ _ _ k1 s1 (R1.layH nq) ⟨_, upd_same, ?_⟩ (R1.new_fresh nq) (R1.ref_ne nq)
    rw [← e1, ← sort_snd]
    exact da_items fun it hit => e3 it ((List.mergeSort_perm items _).mem_iff.mp hit)
end
end L2.Pu

set_option Elab.async false
set_option linter.all false
set_option maxRecDepth 100000
set_option maxHeartbeats 4000000
/-! ## Dicts with whole numbers and texts as keys; sets of texts -/
namespace L2.Pu
open PySem PySem.Spec PyProof.Rows
def keyOf : PyData → Option Key
  | .int i => some (.inl i)
  | .str x => some (.inr x)
  | _ => none
theorem keyOf_keyD (k : Key) : keyOf (keyD k) = some k := by cases k <;> rfl
theorem keyOf_inv {d : PyData} {k : Key} (h : keyOf d = some k) : d = keyD k := by
  cases d <;> cases h <;> rfl
/-- what stands at a key -/
def getK (es : List (Key × PyData)) (k : Key) : Option PyData := (es.find? fun e => decide (e.1 = k)).map (·.2)
def getD (kvs : List (PyData × PyData)) (k : Key) : Option PyData := (kvs.find? fun e => decide (keyOf e.1 = some k)).map (·.2)
theorem getD_map (k : Key) : ∀ es : List (Key × PyData), getD (es.map fun e => (keyD e.1, e.2)) k = getK es k
  | [] => rfl
  | e :: es => by
    have ih := getD_map k es
    unfold getD getK at ih ⊢
    rw [List.map_cons, List.find?_cons, List.find?_cons]
    have : decide (keyOf (keyD e.1) = some k) = decide (e.1 = k) := by rw [keyOf_keyD]; simp
    rw [this]
    cases decide (e.1 = k)
    · exact ih
    · rfl
/-- a value under a key: in its place, or at the end -/
def setK (es : List (Key × PyData)) (k : Key) (d : PyData) : List (Key × PyData) :=
  if (es.any fun e => decide (e.1 = k)) = true then es.map (fun e => if e.1 = k then (e.1, d) else e) else es ++ [(k, d)]
theorem key_v {C : Hp} {x : V} {d : PyData} {k : Key} (h : Da w C x d) (e : keyOf d = some k) : x = kV k := by
  cases h <;> cases e <;> rfl
theorem get_v {C : Hp} {k : Key} : ∀ {kvs : List (Key × V)} {es : List (Key × PyData)}, kvs.map (·.1) = es.map (·.1) → DaAll w C (kvs.map (·.2)) (es.map (·.2)) →
    (∀ d, getK es k = some d → ∃ v, valV kvs k = some v ∧ Da w C v d) ∧ (getK es k = none → valV kvs k = none)
  | [], [], _, _ => ⟨(fun _ z => nomatch z), fun _ => rfl⟩
  | [], _ :: _, h, _ => by cases h
  | _ :: _, [], h, _ => by cases h
  | kv :: kvs, e :: es, h, a => by
    rw [List.map_cons, List.map_cons] at h a
    rw [List.cons.injEq] at h
    obtain ⟨h1, h2⟩ := h
    cases a with
    | cons a t =>
      obtain ⟨i1, i2⟩ := get_v (k := k) h2 t
      unfold getK at i1 i2 ⊢
      rw [List.find?_cons]
      by_cases hk : e.1 = k
      · rw [decide_eq_true hk, valV_pos (h1.trans hk)]
        exact ⟨fun d z => ⟨_, rfl, by cases z; exact a⟩, fun z => nomatch z⟩
      · rw [decide_eq_false hk, valV_neg (fun z => hk (h1.symm.trans z))]
        exact ⟨i1, i2⟩
theorem any_v {k : Key} {kvs : List (Key × V)} {es : List (Key × PyData)} (h : kvs.map (·.1) = es.map (·.1)) : (kvs.any fun kv => decide (kv.1 = k)) = es.any fun e => decide (e.1 = k) := by
  have e1 : (kvs.any fun kv => decide (kv.1 = k)) = (kvs.map (·.1)).any fun z => decide (z = k) := by rw [List.any_map]; rfl
  have e2 : (es.any fun e => decide (e.1 = k)) = (es.map (·.1)).any fun z => decide (z = k) := by rw [List.any_map]; rfl
  rw [e1, e2, h]
theorem repl_v {C : Hp} {k : Key} {v : V} {d : PyData} (dv : Da w C v d) : ∀ {kvs : List (Key × V)} {es : List (Key × PyData)}, kvs.map (·.1) = es.map (·.1) → DaAll w C (kvs.map (·.2)) (es.map (·.2)) →
    (kvs.map fun kv => if kv.1 = k then (kv.1, v) else kv).map (·.1) = (es.map fun e => if e.1 = k then (e.1, d) else e).map (·.1) ∧
    DaAll w C ((kvs.map fun kv => if kv.1 = k then (kv.1, v) else kv).map (·.2)) ((es.map fun e => if e.1 = k then (e.1, d) else e).map (·.2))
  | [], [], _, _ => ⟨rfl, .nil⟩
  | [], _ :: _, h, _ => by cases h
  | _ :: _, [], h, _ => by cases h
  | kv :: kvs, e :: es, h, a => by
    rw [List.map_cons, List.map_cons] at h a
    rw [List.cons.injEq] at h
    obtain ⟨h1, h2⟩ := h
    cases a with
    | cons a t =>
      obtain ⟨i1, i2⟩ := repl_v (k := k) dv h2 t
      simp only [List.map_cons]
      by_cases hk : e.1 = k
      · rw [if_pos hk, if_pos (h1.trans hk)]
        exact ⟨by rw [i1, h1], .cons dv i2⟩
      · rw [if_neg hk, if_neg (fun z => hk (h1.symm.trans z))]
        exact ⟨by rw [i1, h1], .cons a i2⟩
theorem put_v {C : Hp} {k : Key} {v : V} {d : PyData} (dv : Da w C v d) {kvs : List (Key × V)} {es : List (Key × PyData)} (h : kvs.map (·.1) = es.map (·.1)) (a : DaAll w C (kvs.map (·.2)) (es.map (·.2))) :
    (putK kvs k v).map (·.1) = (setK es k d).map (·.1) ∧ DaAll w C ((putK kvs k v).map (·.2)) ((setK es k d).map (·.2)) := by
  unfold putK setK
  rw [any_v h]
  split
  · exact repl_v dv h a
  · rw [List.map_append, List.map_append, List.map_append, List.map_append, h]
    exact ⟨rfl, a.append (.cons dv .nil)⟩
section
variable {X : Cx} {τ : Tb} {pos p pos' : Pos} {a b e : Expr} {qa qb qv : QE} {i : Nat}
/-- d[x] -/
def dgetD : D2 := fun d x P => match d, keyOf x with
  | .dict kvs, some k => match getD kvs k with
    | some y => P y
    | none => False
  | _, _ => False
theorem getD_tup {k : Key} (rds : List (List Str × PyData)) : getD (rds.map fun e => (PyData.tuple (e.1.map PyData.str), e.2)) k = none := by
  unfold getD
  rw [Option.map_eq_none_iff, List.find?_eq_none]
  intro e he
  obtain ⟨r, _, rfl⟩ := List.mem_map.mp he
  simp [keyOf]
/-- the first key, if there is one, is no tuple -/
def txK : List (PyData × PyData) → Bool
  | (.tuple _, _) :: _ => false
  | _ => true
theorem txK_map : ∀ es : List (Key × PyData), txK (es.map fun e => (keyD e.1, e.2)) = true
  | [] => rfl
  | (.inl _, _) :: _ => rfl
  | (.inr _, _) :: _ => rfl
def rDGet : R2 := fun x y H Q => ∃ a v, x = .ref a ∧ DGet H a y (some v) ∧ Q v H
theorem Bo.key {C H : Hp} {x : V} {d : PyData} {k : Key} (h : Bo w C H x d) (e : keyOf d = some k) : x = kV k := by
  cases h <;> cases e <;> rfl
theorem ok_dget : OkD τ X rDGet dgetD := by
  intro F ρ C σ H x y d e P Q R dx dy h z
  cases hk : keyOf e with
  | none => simp only [dgetD, hk] at h
  | some k =>
    cases dx with
    | @dic a kvs es er ek ea =>
      simp only [dgetD, hk, getD_map] at h
      obtain ⟨g1, g2⟩ := get_v (k := k) ek ea
      cases hg : getK es k with
      | none => rw [hg] at h; exact False.elim h
      | some w =>
        rw [hg] at h
        obtain ⟨v, hv, dv⟩ := g1 w hg
        exact ⟨a, v, rfl, .inl ⟨kvs, k, er, dy.key hk, hv.symm⟩, okq R z h dv⟩
    | dicT => simp only [dgetD, hk, getD_tup] at h
    | _ => simp only [dgetD] at h
theorem qe_dget (hu : X.A.units + 1 < cLine) (ha : PQ τ X a qa) (hb : PQ τ X b qb) (hs : NoSl b := by exact fun _ _ => rfl) : PQ τ X (.Subscript a b pos) (qOp dgetD qa qb) := pe_imp _ (pe_dget hu ha hb hs) (op_imp (r2 := rDGet) ok_dget)
theorem qe_dgetL (hu : X.A.units + 1 < cLine) (ha : PE X a (tVar i)) (hb : PQ τ X b qb) (hs : NoSl b := by exact fun _ _ => rfl) : PQ τ X (.Subscript a b pos) (qOpL dgetD i qb) := pe_imp _ (pe_dget hu ha hb hs) (opL_imp (r2 := rDGet) ok_dget)
/-- x in d, x not in d -/
def dinD (neg : Bool) : D2 := fun x d P => match d, keyOf x with
  | .dict kvs, some k => yn (txK kvs) (P (.bool (xor neg (getD kvs k).isSome))) False
  | _, _ => False
def rDIn (neg : Bool) : R2 := fun y x H Q => ∃ a o, x = .ref a ∧ DGet H a y o ∧ Q (.bl (xor neg o.isSome)) H
theorem op_din (hu : X.A.units + 1 < cLine) : OpR X (compareOp .In) (rDIn false) := by
  intro pins s σ H x y v u Q I rx ry h
  obtain ⟨a, o, rfl, g, q⟩ := h
  cases ry
  rw [Bool.false_xor] at q
  exact d_in hu I g rx fun s3 I3 => ⟨.bl o.isSome, H, I3, rfl, q⟩
theorem op_dnotin (hu : X.A.units + 1 < cLine) : OpR X (compareOp .NotIn) (rDIn true) := by
  intro pins s σ H x y v u Q I rx ry h
  obtain ⟨a, o, rfl, g, q⟩ := h
  cases ry
  rw [Bool.true_xor] at q
  exact d_notIn hu I g rx fun s3 I3 => ⟨.bl (!o.isSome), H, I3, rfl, q⟩
theorem ok_din {neg : Bool} : OkD τ X (rDIn neg) (dinD neg) := by
  intro F ρ C σ H x y d e P Q R dx dy h z
  cases hk : keyOf d with
  | none => simp only [dinD, hk] at h
  | some k =>
    cases dy with
    | @dic a kvs es er ek ea =>
      simp only [dinD, hk, getD_map, txK_map, yn] at h
      obtain ⟨g1, g2⟩ := get_v (k := k) ek ea
      refine ⟨a, valV kvs k, rfl, .inl ⟨kvs, k, er, dx.key hk, rfl⟩, ?_⟩
      have : (valV kvs k).isSome = (getK es k).isSome := by
        cases hg : getK es k with
        | none => rw [g2 hg]; rfl
        | some w => obtain ⟨v, hv, _⟩ := g1 w hg; rw [hv]; rfl
      rw [this]
      exact okq R z h (.bl _)
    | @dicT a o u zs rds e dt ks ek ne ha =>
      cases rds with
      | nil => exact absurd rfl ne
      | cons r rds => simp only [dinD, hk, List.map_cons, txK, yn] at h
    | _ => simp only [dinD] at h
theorem qe_din (hu : X.A.units + 1 < cLine) (ha : PQ τ X a qa) (hb : PQ τ X b qb) (hm : behindInMarks .In b = false := by with_unfolding_all rfl) : PQ τ X (.Compare a [.In] [b] pos) (qOp (dinD false) qa qb) := pe_imp _ (pe_cmpR (op_din hu) ha hb hm) (op_imp ok_din)
theorem qe_dinR (hu : X.A.units + 1 < cLine) (ha : PQ τ X a qa) (hb : PE X b (tVar i)) (hm : behindInMarks .In b = false := by with_unfolding_all rfl) : PQ τ X (.Compare a [.In] [b] pos) (qOpR (dinD false) qa i) := pe_imp _ (pe_cmpR (op_din hu) ha hb hm) (opR_imp ok_din)
theorem qt_din (hu : X.A.units + 1 < cLine) (ha : PQ τ X a qa) (hb : PQ τ X b qb) (hm : behindInMarks .In b = false := by with_unfolding_all rfl) : PQT τ X (.Compare a [.In] [b] pos) (qB (qOp (dinD false) qa qb)) := pt_imp _ (pt_cmpR (op_din hu) ha hb hm) (test_imp (op_imp ok_din))
theorem qt_dinR (hu : X.A.units + 1 < cLine) (ha : PQ τ X a qa) (hb : PE X b (tVar i)) (hm : behindInMarks .In b = false := by with_unfolding_all rfl) : PQT τ X (.Compare a [.In] [b] pos) (qB (qOpR (dinD false) qa i)) := pt_imp _ (pt_cmpR (op_din hu) ha hb hm) (test_imp (opR_imp ok_din))
theorem qt_dnotin (hu : X.A.units + 1 < cLine) (ha : PQ τ X a qa) (hb : PQ τ X b qb) (hm : behindInMarks .NotIn b = false := by with_unfolding_all rfl) : PQT τ X (.Compare a [.NotIn] [b] pos) (qB (qOp (dinD true) qa qb)) := pt_imp _ (pt_cmpR (op_dnotin hu) ha hb hm) (test_imp (op_imp ok_din))
theorem qt_dnotinR (hu : X.A.units + 1 < cLine) (ha : PQ τ X a qa) (hb : PE X b (tVar i)) (hm : behindInMarks .NotIn b = false := by with_unfolding_all rfl) : PQT τ X (.Compare a [.NotIn] [b] pos) (qB (qOpR (dinD true) qa i)) := pt_imp _ (pt_cmpR (op_dnotin hu) ha hb hm) (test_imp (opR_imp ok_din))
/-! ### own dicts -/
def qfDict0 : QF := fun ρ κ => κ (.dic []) ρ
theorem qf_dict0 : PQF τ X (.Dict [] [] pos) qfDict0 := by
  refine pe_imp _ pe_dnewK ?_
  rintro σ H Q ⟨F, ρ, C, R, κ, k, z⟩ p np
  exact z _ _ _ _ _ k (same_refl _) (R.layH np) ⟨[], upd_same, rfl, .nil⟩ (R.new_fresh np) (R.ref_ne np)
def isDic (ρ : Ro) (i : Nat) : Bool := match ρ[i]? with
  | some (.own _ (.dic _)) => true
  | _ => false
theorem isDic_of {ρ : Ro} {i : Nat} (h : isDic ρ i = true) : ∃ r es, ρ[i]? = some (.own r (.dic es)) := by
  unfold isDic at h
  split at h
  · exact ⟨_, _, by assumption⟩
  · cases h
/-- d[x] = v -/
def qDput (i : Nat) (qk qv : QE) : QS := fun κ ρ => qv ρ fun d ρ1 => isDic ρ1 i = true ∧ qk ρ1 fun x ρ2 => match ρ2[i]?, keyOf x with
  | some (.own r (.dic es)), some k => es.length < 16000000 ∧ κ.nx (ρ2.set i (.own r (.dic (setK es k d))))
  | _, _ => False
theorem qs_dput {v : Expr} (hu : X.A.units + 1 < cLine) (ho : PE X a (tVar i)) (hb : PQ τ X b qb) (hv : PQ τ X v qv) (hs : swapsWith v (some (.Subscript a b pos')) pos.line X.env = pure false := by rfl) : PQS τ X (.Assign [.Subscript a b pos'] v pos) (qDput i qb qv) := by
  refine ps_imp _ (ps_dput hu ho hb hv hs) ?_
  rintro D σ H ⟨F, ρ, C, R, κ, k, z, _⟩
  refine ⟨F, ρ, C, R, _, k, fun d ρ1 v C1 H1 k1 s1 R1 d1 => ?_⟩
  obtain ⟨k0, k1⟩ := k1
  obtain ⟨r0, es0, e0⟩ := isDic_of k0
  obtain ⟨l, hl, _⟩ := R1.own e0
  refine ⟨_, hl, F, ρ1, C1, R1, _, k1, fun x ρ2 y C2 H2 k2 s2 R2 d2 => ?_⟩
  split at k2
  · rename_i r es k e1 e2
    obtain ⟨p', e3, cp, kvs, e4, e5, e6⟩ := R2.own e1
    rw [hl] at e3; cases e3
    obtain ⟨w1, w2⟩ := put_v (k := k) (d1.mono s2) e5 e6
    have ln : kvs.length = es.length := by
      have := congrArg List.length e5
      rw [List.length_map, List.length_map] at this; exact this
    refine ⟨l, _, rfl, .inl ⟨kvs, k, e4, key_v d2 e2, by rw [ln]; exact Nat.lt_of_lt_of_le k2.1 (by rw [sizeLine_eq]; decide), rfl⟩, ?_⟩
    exact z _ _ _ _ k2.2 (same_trans s1 s2) (R2.write e1 hl ⟨_, upd_same, w1, w2⟩)
  · exact False.elim k2
/-! ### own sets of texts -/
def qfSet0 : QF := fun ρ κ => κ (.set []) ρ
theorem qf_set0 (hg : Gl X "set") (hm : X.mg "set" = none) : PQF τ X (.Call (.Name "set" p) [] [] pos) qfSet0 := by
  refine pe_imp _ (pe_callTy0 (Fu.cr_set0T) hg hm (by decide +kernel)) ?_
  rintro σ H Q ⟨F, ρ, C, R, κ, k, z⟩
  refine ⟨rfl, fun p np => ?_⟩
  exact z _ _ _ _ _ k (same_refl _) (R.layH np) upd_same (R.new_fresh np) (R.ref_ne np)
def qSIn (neg : Bool) (q : QE) (i : Nat) : QE := fun ρ κ => q ρ fun d ρ1 => match d, ρ1[i]? with
  | .str x, some (.own _ (.set l)) => κ (.bool (xor neg (decide (x ∈ l)))) ρ1
  | _, _ => False
theorem sin_imp {neg : Bool} {r2 : R2} (hr : ∀ x y H Q, Fu.rSInT X.prog X.w neg x y H Q → r2 x y H Q) : ∀ σ H Q, liftE (X.pk τ) (qSIn neg qa i) σ H Q → tOp r2 (liftE (X.pk τ) qa) (tVar i) σ H Q := by
  rintro σ H Q ⟨F, ρ, C, R, κ, k, z⟩
  refine ⟨F, ρ, C, R, _, k, fun d ρ1 v C1 H1 k1 s1 R1 d1 => ?_⟩
  cases d1 with
  | str x =>
    split at k1
    · rename_i x' r l e0 e1
      cases e0
      obtain ⟨p', e2, cp, e3⟩ := R1.own e1
      refine ⟨_, e2, hr _ _ _ _ ⟨_, p', l, rfl, rfl, e3, ?_⟩⟩
      cases neg with
      | false => rw [Bool.false_xor] at k1; exact z _ _ _ _ _ k1 s1 R1 (.bl _)
      | true => rw [Bool.true_xor] at k1; exact z _ _ _ _ _ k1 s1 R1 (.bl _)
    · exact False.elim k1
  | _ => exact False.elim k1
theorem qe_sin (ha : PQ τ X a qa) (hb : PE X b (tVar i)) (hm : behindInMarks .In b = false := by with_unfolding_all rfl) : PQ τ X (.Compare a [.In] [b] pos) (qSIn false qa i) := pe_imp _ (pe_cmpR Fu.or_sinT ha hb hm) (sin_imp fun _ _ _ _ h => h)
theorem qt_sin (ha : PQ τ X a qa) (hb : PE X b (tVar i)) (hm : behindInMarks .In b = false := by with_unfolding_all rfl) : PQT τ X (.Compare a [.In] [b] pos) (qB (qSIn false qa i)) := pt_imp _ (pt_cmpR Fu.or_sinT ha hb hm) (test_imp (sin_imp fun _ _ _ _ h => h))
theorem qt_snotin (ha : PQ τ X a qa) (hb : PE X b (tVar i)) (hm : behindInMarks .NotIn b = false := by with_unfolding_all rfl) : PQT τ X (.Compare a [.NotIn] [b] pos) (qB (qSIn true qa i)) := pt_imp _ (pt_cmpR Fu.or_snotinT ha hb hm) (test_imp (sin_imp fun _ _ _ _ h => h))
/-- sorted(found) of a set -/
def qfSortSet (i : Nat) : QF := fun ρ κ => match ρ[i]? with
  | some (.own _ (.set l)) => l.length < 64 ∧ κ (.lst ((sortS l).map PyData.str)) ρ
  | _ => False
theorem qf_sortSet (hc : X.calm = true) (hg : Gl X "sorted") (hm : X.mg "sorted" = none) (ha : PE X e (tVar i)) (he : starEach [e] X.env = (false, eval e X.env) :: starEach [] X.env := by rfl) (hpl : (backTo pos (starEach [] X.env)).any (·.1) = false := by rfl) :
    PQF τ X (.Call (.Name "sorted" p) [e] [] pos) (qfSortSet i) := by
  refine pe_imp _ (pe_callB (Fu.cr_sortT hc) hg hm (by decide +kernel) (pa_cons ha pa_nil he) (by decide) (by decide) he hpl) ?_
  rintro σ H Q ⟨F, ρ, C, R, κ, k, z⟩
  unfold qfSortSet at k
  split at k
  · rename_i r l e0
    obtain ⟨p', e2, cp, e3⟩ := R.own e0
    refine ⟨_, e2, p', l, rfl, e3, k.1, fun ys q py sy nq => ?_⟩
    rw [sortS_of py sy] at *
    exact z _ _ _ _ _ k.2 (same_refl _) (R.layH nq) ⟨_, upd_same, da_strs _⟩ (R.new_fresh nq) (R.ref_ne nq)
  · exact False.elim k
end
end L2.Pu

set_option Elab.async false
set_option linter.all false
set_option maxRecDepth 100000
set_option maxHeartbeats 4000000
/-! ## set.add; dict() of pairs -/
namespace L2.Pu
open PySem PySem.Spec PyProof.Rows
section
variable {X : Cx} {τ : Tb} {pos p apos cpos : Pos} {o e : Expr} {es : List Expr} {q : QE} {i : Nat}
def addS (l : List Str) (k : Str) : List Str := if k ∈ l then l else k :: l
def tAddT (P : Program) (w : World) (to te : TE) : TE := fun σ H Q => to σ H fun x H1 => (∃ a l, x = V.ref a ∧ H1 a = some (Fu.SetT P w a l)) ∧ te σ H1 fun y H2 => ∃ (a : Addr) (k : Str) (l : List Str), x = V.ref a ∧ y = .str k ∧ H2 a = some (Fu.SetT P w a l) ∧ l.length + 1 < scanBound ∧
  Q .non (upd H2 a (Fu.SetT P w a (addS l k)))
theorem pe_addT {to te : TE} (ho : PE X o to) (he : PE X e te)
    (base : attributeBase o "add" X.env (eval o X.env) = eval o X.env := by rfl)
    (few : ((backTo cpos (starEach [e] X.env)).all (fun x => !x.1) && (backToKw cpos (keywordEach [] X.env)).all (fun x => x.1.isSome) && decide (([e] : List Expr).length + ([] : List Keyword).length + (if ([] : List Keyword).isEmpty then 0 else 1) < 30)) = true := by rfl)
    (line : (apos.endLine == cpos.line) = true := by rfl) (st : starEach [e] X.env = (false, eval e X.env) :: starEach [] X.env := by rfl) (pl : (backTo cpos (starEach [] X.env)).any (·.1) = false := by rfl) :
    PE X (.Call (.Attribute o "add" apos) [e] [] cpos) (tAddT X.prog X.w to te) := by
  refine ⟨fun pins s σ H Q I h => ?_⟩
  refine wpAny_Call_method_late base few line rfl (thn (ho.run pins s σ H _ I h) fun v s1 ⟨x, H1, I1, r1, ty, q1⟩ => ?_)
  obtain ⟨a, l, rfl, ha⟩ := ty
  have so := (Fu.setT_get I1 ha).setOf
  cases r1
  refine ⟨"set", "set.add", F.plainAttrs_set, F.slot_set_add, F.type_set_add, so.typeIs, so.noDict, ?_⟩
  have args : PA X [e] (tCons te tNil) := pa_cons he pa_nil st
  have run := args.run cpos pins s1 σ H1 (fun ys H2 => match ys with
    | [y] => ∃ (b : Addr) (k : Str) (l : List Str), V.ref a = V.ref b ∧ y = .str k ∧ H2 b = some (Fu.SetT X.prog X.w b l) ∧ l.length + 1 < scanBound ∧ Q .non (upd H2 b (Fu.SetT X.prog X.w b (addS l k)))
    | _ => False) I1 q1
  rw [st] at run ⊢
  refine Calls.callWith_builtin (by show (false || (backTo cpos (starEach [] X.env)).any (·.1)) = false; rw [pl] <;> rfl) (Calls.evalArgs_plain (thn run fun us s2 g => ?_))
  obtain ⟨vs, H2, I2, r2, q2⟩ := g
  match vs, r2, q2 with
  | [y], r2, q2 =>
    obtain ⟨b, k, l2, eb, rfl, hb, room, q3⟩ := q2
    cases eb
    obtain ⟨u, rfl, t, rfl⟩ := vals1 r2
    exact Fu.addT_ok I2 hb room fun s3 I3 => ⟨.non, _, I3, rfl, q3⟩
def isSet (ρ : Ro) (i : Nat) : Bool := match ρ[i]? with
  | some (.own _ (.set _)) => true
  | _ => false
theorem isSet_of {ρ : Ro} {i : Nat} (h : isSet ρ i = true) : ∃ r l, ρ[i]? = some (.own r (.set l)) := by
  unfold isSet at h
  split at h
  · exact ⟨_, _, by assumption⟩
  · cases h
def qAddS (i : Nat) (q : QE) : QE := fun ρ κ => isSet ρ i = true ∧ q ρ fun d ρ1 => match d, ρ1[i]? with
  | .str x, some (.own r (.set l)) => l.length < 1000 ∧ κ .none (ρ1.set i (.own r (.set (addS l x))))
  | _, _ => False
theorem scan_room {n : Nat} (h : n < 1000) : n + 1 < scanBound := Nat.lt_of_le_of_lt (Nat.succ_le_of_lt h) (by decide)
theorem qe_addS (ho : PE X o (tVar i)) (he : PQ τ X e q)
    (base : attributeBase o "add" X.env (eval o X.env) = eval o X.env := by rfl)
    (few : ((backTo cpos (starEach [e] X.env)).all (fun x => !x.1) && (backToKw cpos (keywordEach [] X.env)).all (fun x => x.1.isSome) && decide (([e] : List Expr).length + ([] : List Keyword).length + (if ([] : List Keyword).isEmpty then 0 else 1) < 30)) = true := by rfl)
    (line : (apos.endLine == cpos.line) = true := by rfl) (st : starEach [e] X.env = (false, eval e X.env) :: starEach [] X.env := by rfl) (pl : (backTo cpos (starEach [] X.env)).any (·.1) = false := by rfl) :
    PQ τ X (.Call (.Attribute o "add" apos) [e] [] cpos) (qAddS i q) := by
  refine pe_imp _ (pe_addT ho he base few line st pl) ?_
  rintro σ H Q ⟨F, ρ, C, R, κ, ⟨k0, k⟩, z⟩
  obtain ⟨r0, l0, e0⟩ := isSet_of k0
  obtain ⟨p', hv, _, hl⟩ := R.own e0
  refine ⟨_, hv, ⟨p', l0, rfl, hl⟩, F, ρ, C, R, _, k, fun d ρ1 v C1 H1 k1 s1 R1 d1 => ?_⟩
  cases d1 with
  | str x =>
    split at k1
    · rename_i x' r l e1 e2
      cases e1
      obtain ⟨p2, hv2, _, hl2⟩ := R1.own e2
      rw [hv] at hv2; cases hv2
      exact ⟨p', _, l, rfl, rfl, hl2, scan_room k1.1, z _ _ _ _ _ k1.2 s1 (R1.write e2 hv upd_same) .non⟩
    · exact False.elim k1
  | _ => exact False.elim k1
/-! ### dict(pairs) -/
def pairD : PyData → Option (Key × PyData)
  | .tuple [k, v] => (keyOf k).map fun k => (k, v)
  | _ => none
def pairsD : List PyData → Option (List (Key × PyData))
  | [] => some []
  | d :: ds => match pairD d, pairsD ds with
    | some e, some es => some (e :: es)
    | _, _ => none
def mergeD (acc es : List (Key × PyData)) : List (Key × PyData) := es.foldl (fun acc e => setK acc e.1 e.2) acc
def dictF : DF := fun ds P => match ds with
  | [.list xs] => match pairsD xs with
    | some es => P (.dic (mergeD [] es))
    | none => False
  | [.tuple xs] => match pairsD xs with
    | some es => P (.dic (mergeD [] es))
    | none => False
  | _ => False
/-- the pairs' addresses -/
theorem pairs_are {K : PySem.W.Frag} {C H : Hp} (s : Same C H) : ∀ {xs : List PyData} {es : List (Key × PyData)} {vs : List V}, DaAll w C vs xs → pairsD xs = some es →
    ∃ (ps : List Addr) (kvs : List (Key × V)), vs = ps.map V.ref ∧ Paired (fun p kv => SqT K H p [kV kv.1, kv.2]) ps kvs ∧ kvs.map (·.1) = es.map (·.1) ∧ DaAll w C (kvs.map (·.2)) (es.map (·.2))
  | [], es, _, h, e => by cases h; cases e; exact ⟨[], [], rfl, .nil, rfl, .nil⟩
  | x :: xs, es, _, h, e => by
    cases h with
    | cons a t =>
      unfold pairsD at e
      split at e
      · rename_i e1 es1 h1 h2
        cases e
        obtain ⟨ps, kvs, rfl, w1, w2, w3⟩ := pairs_are (K := K) s t h2
        unfold pairD at h1
        split at h1
        · rename_i k v
          cases hk : keyOf k with
          | none => rw [hk] at h1; cases h1
          | some k' =>
            rw [hk] at h1; cases h1
            cases a with
            | @tup b ob ys _ eb nb hb =>
              cases hb with
              | cons b1 t1 =>
                cases t1 with
                | cons b2 t2 =>
                  cases t2
                  rw [key_v b1 hk] at eb
                  exact ⟨b :: ps, (k', _) :: kvs, rfl, .cons (sqF (s _ _ eb)) w1, by rw [List.map_cons, List.map_cons, w2], .cons b2 w3⟩
        · cases h1
      · cases e
theorem merge_v {C : Hp} : ∀ {kvs : List (Key × V)} {es : List (Key × PyData)} {acc : List (Key × V)} {acd : List (Key × PyData)}, kvs.map (·.1) = es.map (·.1) → DaAll w C (kvs.map (·.2)) (es.map (·.2)) → acc.map (·.1) = acd.map (·.1) → DaAll w C (acc.map (·.2)) (acd.map (·.2)) →
    (mergeK acc kvs).map (·.1) = (mergeD acd es).map (·.1) ∧ DaAll w C ((mergeK acc kvs).map (·.2)) ((mergeD acd es).map (·.2))
  | [], [], _, _, _, _, h, a => ⟨h, a⟩
  | [], _ :: _, _, _, h, _, _, _ => by cases h
  | _ :: _, [], _, _, h, _, _, _ => by cases h
  | kv :: kvs, e :: es, acc, acd, h, a, h', a' => by
    rw [List.map_cons, List.map_cons] at h a
    rw [List.cons.injEq] at h
    cases a with
    | cons a t =>
      have st := put_v (k := e.1) a h' a'
      have eq : mergeK acc (kv :: kvs) = mergeK (putK acc e.1 kv.2) kvs := by
        show mergeK (putK acc kv.1 kv.2) kvs = _
        rw [h.1]
      rw [eq]
      exact merge_v (acc := putK acc e.1 kv.2) (acd := setK acd e.1 e.2) h.2 t st.1 st.2
def rDictP (K : PySem.W.Frag) : RN := fun xs H Q => ∃ (a : Addr) (ps : List Addr) (kvs : List (Key × V)), xs = [.ref a] ∧ (SqL K H a (ps.map V.ref) ∨ ∃ ob, H a = some (.frz ob (.tup (ps.map V.ref))) ∧ ob.dict = none) ∧ Paired (fun p kv => SqT K H p [kV kv.1, kv.2]) ps kvs ∧
    ∀ p, H p = none → Q (.ref p) (upd H p (.dK (mergeK [] kvs)))
theorem call_dictA (calm : X.calm = true) : CallR X (.type "dict") (rDictP X.K) := by
  intro pins s σ H xs us Q I r k
  obtain ⟨a, ps, kvs, rfl, sq | ⟨ob, ea, nd⟩, hp, q⟩ := k
  · exact call_dictP calm pins s σ H _ us Q I r ⟨a, ps, kvs, rfl, sq, hp, q⟩
  obtain ⟨u, rfl, ru⟩ := vals1 r
  cases ru
  obtain ⟨prs, rel, hl, hpr⟩ := pairs_of I hp
  obtain ⟨ho, zl, its, rv, ob2, ho2, hc, n, hd⟩ := (show ObjOk X.prog X.w H s.heap a (.frz ob (.tup (ps.map V.ref))) from I.hok a _ ea)
  have e1 := refs_at rv
  subst e1
  have e2 : ob2 = ob := Option.some.inj (ho2.symm.trans ho)
  subst e2
  rw [List.length_map] at zl
  have fst : ∀ j : Nat, ∃ u : Value, ∀ kv, prs[j]? = some kv → ∃ b, ps[j]? = some b ∧ IsTup s.heap b #[u, kv.2] ∧ keyIs kv.1 u = true := fun j => by
    cases e : prs[j]? with
    | none => exact ⟨.none, fun _ z => nomatch z⟩
    | some kv =>
      obtain ⟨b, u, h1, h2, h3⟩ := hpr j kv e
      exact ⟨u, fun kv' z => by cases z; exact ⟨b, h1, h2, h3⟩⟩
  obtain ⟨f, hf⟩ := Classical.axiomOfChoice fst
  let pv : List (Value × Value) := prs.mapIdx fun j kv => (f j, kv.2)
  have pvl : pv.length = ps.length := by simp [pv, hl]
  have pv_at : ∀ j k v, pv[j]? = some (k, v) → ∃ kv, prs[j]? = some kv ∧ k = f j ∧ v = kv.2 := fun j k v e => by
    simp only [pv, List.getElem?_mapIdx, Option.map_eq_some_iff] at e
    obtain ⟨kv, e1, e2⟩ := e
    cases e2
    exact ⟨kv, e1, rfl, rfl⟩
  refine PySem.call_dict_pairs (knd := mixKind X.prog X.w) (kvs := prs) (PySem.PairArg.tuple a (ps.map Value.ref).toArray (fun j => ps.getD j 0) pv) (I.ok.hd calm) ⟨⟨ob2, n, ho2, hc, nd, hd⟩, ?_, fun j k v e => ?_⟩ ⟨by rw [pvl, hl], fun j k v e => ?_⟩ (by rw [pvl]; exact zl) fun h' tk hd' kp => ?_
  · rw [pvl]; simp
  · obtain ⟨kv, e1, rfl, rfl⟩ := pv_at j k v e
    obtain ⟨b, h1, h2, h3⟩ := hf j kv e1
    have : ps.getD j 0 = b := by rw [List.getD_eq_getElem?_getD, h1]; rfl
    dsimp only
    rw [this]
    refine ⟨by simp [h1], .inl ?_⟩
    obtain ⟨o, a1, a2, m, a3⟩ := h2
    exact ⟨o, a1, a2, m, a3⟩
  · obtain ⟨kv, e1, rfl, rfl⟩ := pv_at j k v e
    obtain ⟨b, h1, h2, h3⟩ := hf j kv e1
    exact ⟨kv.1, e1, h3⟩
  · have hm : (s.heap.objs.size == sysModules) = false := beq_eq_false_iff_ne.mpr (Nat.ne_of_gt I.big)
    have ln : (mergeK [] kvs).length ≤ sizeLine := by
      refine Nat.le_trans (length_mergeK kvs []) ?_
      rw [List.length_nil, Nat.zero_add, rel.length, hl]; exact zl
    have J := I.laid (t' := tk) (fun b o e => kp b o (fun z => nomatch z) e) (Nat.le_refl _) (show ObjOk X.prog X.w (upd H s.heap.objs.size (.dK (mergeK [] kvs))) h' s.heap.objs.size (.dK (mergeK [] kvs)) from ⟨ln, hm, _, KV.merge rel .nil, hd'⟩)
    exact ⟨.ref s.heap.objs.size, _, J, rfl, q _ (I.hok.fresh (Nat.le_refl _))⟩
theorem ok_dict : OkF τ X (rDictP X.K) dictF := by
  intro F ρ C σ H vs ds P Q R a h z
  cases a with
  | nil => exact False.elim h
  | cons a t =>
    cases t with
    | cons => cases a <;> exact False.elim h
    | nil =>
      cases a with
      | @lst b us ds e ha =>
        simp only [dictF] at h
        split at h
        · rename_i es he
          obtain ⟨ps, kvs, rfl, w1, w2, w3⟩ := pairs_are (K := X.K) R.sub ha he
          refine ⟨b, ps, kvs, rfl, .inl (SqL.of e), w1, fun p np => ?_⟩
          obtain ⟨m1, m2⟩ := merge_v w2 w3 (acc := []) (acd := []) rfl .nil
          exact z _ _ _ h np ⟨_, upd_same, m1, m2⟩
        · exact False.elim h
      | @tup b ob us ds e nd ha =>
        simp only [dictF] at h
        split at h
        · rename_i es he
          obtain ⟨ps, kvs, rfl, w1, w2, w3⟩ := pairs_are (K := X.K) R.sub ha he
          refine ⟨b, ps, kvs, rfl, .inr ⟨ob, R.sub _ _ e, nd⟩, w1, fun p np => ?_⟩
          obtain ⟨m1, m2⟩ := merge_v w2 w3 (acc := []) (acd := []) rfl .nil
          exact z _ _ _ h np ⟨_, upd_same, m1, m2⟩
        · exact False.elim h
      | _ => exact False.elim h
theorem qf_dictOf {as : List BArg} (hc : X.calm = true) (hg : Gl X "dict") (hm : X.mg "dict" = none) (ha : PQB τ X (e :: es) as) (he : starEach (e :: es) X.env = (false, eval e X.env) :: starEach es X.env := by rfl) (hpl : (backTo pos (starEach es X.env)).any (·.1) = false := by rfl) :
    PQF τ X (.Call (.Name "dict" p) (e :: es) [] pos) (qBltF dictF as) := qf_bty (call_dictA hc) ok_dict hg hm (by decide +kernel) ha (by decide) (by decide) he hpl
end
end L2.Pu

set_option Elab.async false
set_option linter.all false
set_option maxRecDepth 100000
set_option maxHeartbeats 4000000
/-! ## a, b, c = x, y, z, of data and new own things -/
namespace L2.Pu
open PySem PySem.Spec PyProof.Rows
inductive MArg where
  | e (q : QE)
  | f (q : QF)
def qMArgs : List MArg → Ro → (List Slot → Ro → Prop) → Prop
  | [], ρ, κ => κ [] ρ
  | .e q :: as, ρ, κ => q ρ fun d ρ1 => qMArgs as ρ1 fun ss ρ2 => κ (.val d :: ss) ρ2
  | .f q :: as, ρ, κ => q ρ fun o ρ1 => qMArgs as ρ1 fun ss ρ2 => κ (.own false o :: ss) ρ2
/-- values that are data, or new own things, all apart -/
inductive MxAll (T : PK) (F : Fm) (ρ : Ro) (C : Hp) (σ : St) (H : Hp) : List V → List Slot → List Addr → Prop
  | nil : MxAll T F ρ C σ H [] [] []
  | val {v : V} {d : PyData} {vs : List V} {ss : List Slot} {ps : List Addr} : Da T.w C v d → MxAll T F ρ C σ H vs ss ps → MxAll T F ρ C σ H (v :: vs) (.val d :: ss) ps
  | own {p : Addr} {o : Own} {vs : List V} {ss : List Slot} {ps : List Addr} : OwnAt T C H p o → Fresh F ρ C σ p → (∀ q ∈ F.refs, q.2 ≠ p) → p ∉ ps → MxAll T F ρ C σ H vs ss ps → MxAll T F ρ C σ H (.ref p :: vs) (.own false o :: ss) (p :: ps)
section
variable {T : PK} {F : Fm} {ρ : Ro} {C : Hp} {σ : St} {H : Hp} {i : Nat} {p : Addr}
theorem MxAll.len {vs : List V} {ss : List Slot} {ps : List Addr} (m : MxAll T F ρ C σ H vs ss ps) : vs.length = ss.length := by
  induction m with
  | nil => rfl
  | val _ _ ih => rw [List.length_cons, List.length_cons, ih]
  | own _ _ _ _ _ ih => rw [List.length_cons, List.length_cons, ih]
theorem MxAll.here {vs : List V} {ss : List Slot} {ps : List Addr} (m : MxAll T F ρ C σ H vs ss ps) : ∀ q ∈ ps, Fresh F ρ C σ q := by
  induction m with
  | nil => exact fun _ z => nomatch z
  | val _ _ ih => exact ih
  | own _ f _ _ _ ih => exact fun q hq => (List.mem_cons.mp hq).elim (fun e => e ▸ f) (ih q)
theorem MxAll.unguard {u : HO} {vs : List V} {ss : List Slot} {ps : List Addr} (m : MxAll T (F.guard p u) ρ C σ H vs ss ps) : MxAll T F ρ C σ H vs ss ps ∧ p ∉ ps := by
  have low : ∀ b, Fresh (F.guard p u) ρ C σ b → Fresh F ρ C σ b ∧ b ≠ p := fun b f => by
    have h : upd F.H0 p u b = none := f.start
    have ne : b ≠ p := fun e => by rw [e, upd_same] at h; cases h
    rw [upd_ne ne] at h
    exact ⟨⟨f.core, h, f.owned⟩, ne⟩
  induction m with
  | nil => exact ⟨.nil, fun z => nomatch z⟩
  | val d _ ih => exact ⟨.val d ih.1, ih.2⟩
  | own w f r n _ ih => exact ⟨.own w (low _ f).1 r n ih.1, fun z => (List.mem_cons.mp z).elim (fun e => (low _ f).2 e.symm) ih.2⟩
theorem OwnAt.notupT {o : Own} {u : HO} (w : OwnAt T C H p o) (h : H p = some u) : (∀ xs, u ≠ .tup xs) ∧ NoTb u := by
  refine ⟨fun xs e => ?_, fun ps e => w.notab.1 ps (by rw [h, e])⟩
  subst e
  cases o with
  | lst ds => obtain ⟨vs, a, _⟩ := w; rw [h] at a; cases a
  | dic es => obtain ⟨vs, a, _⟩ := w; rw [h] at a; cases a
  | set xs => have a : H p = _ := w; rw [h] at a; cases a
  | hand b => obtain ⟨_, _, _, a, _⟩ := w; rw [h] at a; cases a
end
def liftM (T : PK) (as : List MArg) : TA := fun σ H Q => ∃ F ρ C, Rep T F ρ C σ H ∧ ∃ κ, qMArgs as ρ κ ∧ ∀ ss ρ' vs ps C' H', κ ss ρ' → Same C C' → Rep T F ρ' C' σ H' → MxAll T F ρ' C' σ H' vs ss ps → Q vs H'
abbrev PQM (τ : Tb) (X : Cx) (es : List Expr) (as : List MArg) : Prop := PA X es (liftM (X.pk τ) as)
section
variable {X : Cx} {τ : Tb} {e : Expr} {es : List Expr} {as : List MArg}
theorem qm_nil : PQM τ X [] [] := by
  refine pa_imp _ pa_nil ?_
  rintro σ H Q ⟨F, ρ, C, R, κ, k, z⟩
  exact z _ _ _ _ _ _ k (same_refl _) R .nil
theorem qm_e {q : QE} (h : PQ τ X e q) (t : PQM τ X es as) (hs : starEach (e :: es) X.env = (false, eval e X.env) :: starEach es X.env := by rfl) : PQM τ X (e :: es) (.e q :: as) := by
  refine pa_imp _ (pa_cons h t hs) ?_
  rintro σ H Q ⟨F, ρ, C, R, κ, k, z⟩
  refine ⟨F, ρ, C, R, _, k, fun d ρ1 v C1 H1 k1 s1 R1 d1 => ?_⟩
  refine ⟨F, ρ1, C1, R1, _, k1, fun ss ρ2 vs ps C2 H2 k2 s2 R2 a2 => ?_⟩
  exact z _ _ _ _ _ _ k2 (same_trans s1 s2) R2 (.val (d1.mono s2) a2)
theorem qm_f {q : QF} (h : PQF τ X e q) (t : PQM τ X es as) (hs : starEach (e :: es) X.env = (false, eval e X.env) :: starEach es X.env := by rfl) : PQM τ X (e :: es) (.f q :: as) := by
  refine pa_imp _ (pa_cons h t hs) ?_
  rintro σ H Q ⟨F, ρ, C, R, κ, k, z⟩
  refine ⟨F, ρ, C, R, _, k, fun o ρ1 p C1 H1 k1 s1 R1 w1 f1 r1 => ?_⟩
  obtain ⟨u, hu⟩ := w1.ex
  obtain ⟨nt, no⟩ := w1.notupT hu
  refine ⟨F.guard p u, ρ1, C1, R1.guard f1 hu no, _, k1, fun ss ρ2 vs ps C2 H2 k2 s2 R2 a2 => ?_⟩
  obtain ⟨R3, hp, f3⟩ := R2.unguard nt no f1.start (R1.c0_none f1.core) r1
  obtain ⟨a3, np⟩ := a2.unguard
  exact z _ _ _ _ _ _ k2 (same_trans s1 s2) R3 (.own (w1.mono s2 (hp.trans hu.symm)) f3 r1 np a3)
/-- slots are stored, one behind the other -/
def setAll : Ro → List Nat → List Slot → Ro
  | ρ, i :: is, s :: ss => setAll (ρ.set i s) is ss
  | ρ, _, _ => ρ
def setV : St → List Nat → List V → St
  | σ, i :: is, v :: vs => setV (σ.set i (some v)) is vs
  | σ, _, _ => σ
theorem MxAll.stored {T : PK} {F : Fm} {ρ : Ro} {C : Hp} {σ : St} {H : Hp} {i : Nat} {v : V} {s : Slot} {vs : List V} {ss : List Slot} {ps : List Addr} (m : MxAll T F ρ C σ H vs ss ps) (h : ∀ p ∈ ps, ∀ r o, s = .own r o → v ≠ .ref p) : MxAll T F (ρ.set i s) C (σ.set i (some v)) H vs ss ps := by
  have low : ∀ b, Fresh F ρ C σ b → (∀ r o, s = .own r o → v ≠ .ref b) → Fresh F (ρ.set i s) C (σ.set i (some v)) b := fun b f n => ⟨f.core, f.start, fun j r o hj hv => by
    rcases getElem?_set' hj with ⟨rfl, e, hl⟩ | ⟨ne, hj⟩
    · by_cases hs : j < σ.length
      · rw [List.getElem?_set_self hs] at hv
        exact n r o e.symm (by cases hv; rfl)
      · rw [List.getElem?_eq_none (by simpa using hs)] at hv; cases hv
    · rw [List.getElem?_set_ne (Ne.symm ne)] at hv
      exact f.owned j r o hj hv⟩
  induction m with
  | nil => exact .nil
  | val d _ ih => exact .val d (ih h)
  | own w f r n _ ih => exact .own w (low _ f (h _ List.mem_cons_self)) r n (ih fun p hp => h p (List.mem_cons_of_mem _ hp))
theorem Rep.setAll {T : PK} {F : Fm} {C : Hp} {H : Hp} : ∀ {is : List Nat} {vs : List V} {ss : List Slot} {ps : List Addr} {ρ : Ro} {σ : St}, Rep T F ρ C σ H → MxAll T F ρ C σ H vs ss ps → Rep T F (setAll ρ is ss) C (setV σ is vs) H
  | [], _, ss, _, _, _, R, _ => by cases ss <;> exact R
  | _ :: _, _, _, _, _, _, R, .nil => R
  | i :: is, _, _, _, ρ, σ, R, .val d m => (R.setVal d).setAll (is := is) (m.stored fun _ _ _ _ e => by cases e)
  | i :: is, _, _, _, ρ, σ, R, .own w f r n m => by
    have R1 := R.setOwn (i := i) f.core f.start w fun j r' o' _ hj hv => f.owned j r' o' hj hv
    exact R1.setAll (is := is) (m.stored fun p hp r o _ e => by cases e; exact n hp)
def qPar (is : List Nat) (as : List MArg) : QS := fun κ ρ => qMArgs as ρ fun ss ρ1 => ss.length = is.length ∧ κ.nx (setAll ρ1 is ss)
section
variable {x y z : Str} {i j l : Nat} {a b c : Expr} {px py pz pt pos pt2 : Pos} {kt k2 : Nat}
theorem qs_par2 (hc : X.calm = true) (hN : X.N.Nodup) (hi : X.N[i]? = some x) (hj : X.N[j]? = some y) (hij : i ≠ j)
    (hx : X.env.scope.names.lookup x = some .local) (hy : X.env.scope.names.lookup y = some .local) (ha : PQM τ X [a, b] as)
    (hw : swappedStores [.Tuple [.Name x px, .Name y py] kt pt] (.Tuple [a, b] k2 pt2) X.env = pure (some [x, y]))
    (hs : swapsWithSole [.Tuple [.Name x px, .Name y py] kt pt] (.Tuple [a, b] k2 pt2) pos.line X.env = pure false := by rfl) :
    PQS τ X (.Assign [.Tuple [.Name x px, .Name y py] kt pt] (.Tuple [a, b] k2 pt2) pos) (qPar [i, j] as) := by
  refine ps_imp _ (ps_par hc hN hi hj hij hx hy ha hw hs) ?_
  rintro D σ H ⟨F, ρ, C, R, κ, k, z, _⟩
  refine ⟨F, ρ, C, R, _, k, fun ss ρ1 vs ps C1 H1 k1 s1 R1 m1 => ?_⟩
  have ln := m1.len.trans k1.1
  match vs, ln, m1 with
  | [v1, v2], _, m1 => exact ⟨v1, v2, rfl, z _ _ _ _ k1.2 s1 (R1.setAll (is := [i, j]) m1)⟩
theorem qs_par3 (hc : X.calm = true) (hN : X.N.Nodup) (hi : X.N[i]? = some x) (hj : X.N[j]? = some y) (hl : X.N[l]? = some z) (hij : i ≠ j) (hil : i ≠ l) (hjl : j ≠ l)
    (hx : X.env.scope.names.lookup x = some .local) (hy : X.env.scope.names.lookup y = some .local) (hz : X.env.scope.names.lookup z = some .local) (ha : PQM τ X [a, b, c] as)
    (hw : swappedStores [.Tuple [.Name x px, .Name y py, .Name z pz] kt pt] (.Tuple [a, b, c] k2 pt2) X.env = pure (some [x, y, z]))
    (hs : swapsWithSole [.Tuple [.Name x px, .Name y py, .Name z pz] kt pt] (.Tuple [a, b, c] k2 pt2) pos.line X.env = pure false := by rfl) :
    PQS τ X (.Assign [.Tuple [.Name x px, .Name y py, .Name z pz] kt pt] (.Tuple [a, b, c] k2 pt2) pos) (qPar [i, j, l] as) := by
  refine ps_imp _ (ps_par3 hc hN hi hj hl hij hil hjl hx hy hz ha hw hs) ?_
  rintro D σ H ⟨F, ρ, C, R, κ, k, z, _⟩
  refine ⟨F, ρ, C, R, _, k, fun ss ρ1 vs ps C1 H1 k1 s1 R1 m1 => ?_⟩
  have ln := m1.len.trans k1.1
  match vs, ln, m1 with
  | [v1, v2, v3], _, m1 => exact ⟨v1, v2, v3, rfl, z _ _ _ _ k1.2 s1 (R1.setAll (is := [i, j, l]) m1)⟩
end
/-! ### .. with more names, or names of cells: by a tuple -/
def gNames : List Nat → TGs
  | [] => gNil
  | i :: is => gCons (gName i) (gNames is)
abbrev PGn (X : Cx) (es : List Expr) (is : List Nat) : Prop := PGs X es (gNames is)
theorem gn_nil : PGn X [] [] := pgs_nil
theorem gn_cons {i : Nat} {x : Str} {is : List Nat} {pos : Pos} (hN : X.N.Nodup) (hi : X.N[i]? = some x) (hx : Loc X.env.scope x) (t : PGn X es is) (hf : X.fn x = true ∨ X.env.scope.names.lookup x = some .local := by first | exact .inl rfl | exact .inr rfl | assumption)
    (hs : (assignEach (.Name x pos :: es) X.env).map (·.2) = assign (.Name x pos) X.env :: (assignEach es X.env).map (·.2) := by rfl) : PGn X (.Name x pos :: es) (i :: is) := pgs_cons (pg_name hN hi hx hf) t hs
theorem gNames_run : ∀ {is : List Nat} {vs : List V} {σ : St} {H : Hp} {Q : St → Hp → Prop}, vs.length = is.length → Q (setV σ is vs) H → gNames is vs σ H Q
  | [], [], _, _, _, _, q => ⟨rfl, q⟩
  | i :: is, v :: vs, _, _, _, h, q => ⟨v, vs, rfl, gNames_run (by simpa using h) q⟩
theorem qs_parN {ts : List Expr} {is : List Nat} {n : Nat} {kt k2 : Nat} {pt pt2 pos : Pos} (hc : X.calm = true) (hg : PGn X ts is) (ha : PQM τ X es as) (hn2 : n = is.length := by rfl) (hn3 : n ≤ 1000 := by decide) (hn : (assignEach ts X.env).length = n := by rfl) (hst : (assignEach ts X.env).findIdx? (·.1) = none := by rfl)
    (hs : swapsWithSole [.Tuple ts kt pt] (.Tuple es k2 pt2) pos.line X.env = pure false := by rfl) (hw : swappedStores [.Tuple ts kt pt] (.Tuple es k2 pt2) X.env = pure none := by rfl) (h1 : (assignEach [.Tuple ts kt pt] X.env).map (·.2) = [assign (.Tuple ts kt pt) X.env] := by rfl) :
    PQS τ X (.Assign [.Tuple ts kt pt] (.Tuple es k2 pt2) pos) (qPar is as) := by
  refine ps_imp _ (ps_asg (pe_tupF ha) (pg_tup hc hg hn hst) hs hw h1) ?_
  rintro D σ H ⟨F, ρ, C, R, κ, k, z, _⟩
  refine ⟨F, ρ, C, R, _, k, fun ss ρ1 vs ps C1 H1 k1 s1 R1 m1 => ?_⟩
  have ln := m1.len.trans k1.1
  refine ⟨by rw [ln, ← hn2]; exact Nat.le_trans hn3 (by rw [sizeLine_eq]; decide), fun q o nq fo => ?_⟩
  obtain ⟨ob, rfl, _⟩ := fo
  refine ⟨q, vs, rfl, sqF upd_same, by rw [ln, hn2], gNames_run ln ?_⟩
  have mm : MxAll (X.pk τ) F ρ1 C1 σ (upd H1 q (.frz ob (.tup vs))) vs ss ps := by
    clear k1 ln
    generalize hgn : HO.frz ob (.tup vs) = u
    clear hgn
    induction m1 with
    | nil => exact .nil
    | val d _ ih => exact .val d ih
    | own w f r n _ ih =>
      obtain ⟨u', hu⟩ := w.ex
      exact .own (w.mono (same_refl _) (by rw [upd_ne (ne_of_none hu nq)])) f r n ih
  exact z _ _ _ _ k1.2 s1 ((R1.layH nq).setAll (is := is) mm)
end
end L2.Pu
/-! ## raise (never reached), sets of texts -/
namespace L2.Pu
open PySem PySem.Spec PyProof.Rows
section
variable {X : Cx} {τ : Tb} {pos p : Pos} {e : Expr} {q : QE} {qf : QF}
def qNo : QS := fun _ _ => False
/-- a statement that is never reached -/
theorem qs_no {st : Stmt} : PQS τ X st qNo := ⟨fun pins s σ H D I h => by obtain ⟨F, ρ, C, R, κ, k, _⟩ := h; exact False.elim k⟩
/-- statements that are never reached -/
theorem qss_no {sts : List Stmt} : PQSs τ X sts qNo := ⟨fun pins s σ H D I h => by obtain ⟨F, ρ, C, R, κ, k, _⟩ := h; exact False.elim k⟩
def rSetOf (K : PySem.W.Frag) (P : Program) (w : World) : List V → Hp → VK → Prop := fun xs H Q => Fu.rSetOfL K P w xs H Q ∨ Fu.rSetOfT K P w xs H Q
theorem cr_setOf (hc : X.calm = true) : CallR X (.type "set") (rSetOf X.K X.prog X.w) := fun pins s σ H xs us Q I r h => h.elim (Fu.cr_setOfL hc pins s σ H xs us Q I r) (Fu.cr_setOfT hc pins s σ H xs us Q I r)
def textsD : PyData → List Str → Prop := fun d ts => d = .list (ts.map PyData.str) ∨ d = .tuple (ts.map PyData.str)
/-- set(e), e a list or a tuple of texts -/
def qfSetOf (q : QE) : QF := fun ρ κ => q ρ fun d ρ1 => ∃ ts, textsD d ts ∧ ts.length < 1000 ∧ κ (.set (Fu.allL ts)) ρ1
theorem qf_setOf (hc : X.calm = true) (hg : Gl X "set") (hm : X.mg "set" = none) (h : PQ τ X e q) (he : starEach [e] X.env = (false, eval e X.env) :: starEach [] X.env := by rfl) (hpl : (backTo pos (starEach [] X.env)).any (·.1) = false := by rfl) :
    PQF τ X (.Call (.Name "set" p) [e] [] pos) (qfSetOf q) := by
  refine pe_imp _ (pe_callTy (cr_setOf hc) hg hm (by decide +kernel) (pa_cons h pa_nil he) (by decide) (by decide) he hpl) ?_
  rintro σ H Q ⟨F, ρ, C, R, κ, k, z⟩
  refine ⟨F, ρ, C, R, _, k, fun d ρ1 v C1 H1 k1 s1 R1 d1 => ?_⟩
  obtain ⟨ts, td, hl, k1⟩ := k1
  have sb : ts.length + 1 < scanBound := by unfold scanBound; omega
  rcases td with rfl | rfl
  · cases d1 with
    | @lst a xs ds ea na ha =>
      rw [strs_of ha] at ea
      refine .inl ⟨a, ts, rfl, SqL.of (R1.sub _ _ ea), sb, fun p np => ?_⟩
      exact z _ _ _ _ _ k1 s1 (R1.layH np) upd_same (R1.new_fresh np) (R1.ref_ne np)
  · cases d1 with
    | @tup a oa xs ds ea na ha =>
      rw [strs_of ha] at ea
      refine .inr ⟨a, ts, rfl, sqF (R1.sub _ _ ea), sb, fun p np => ?_⟩
      exact z _ _ _ _ _ k1 s1 (R1.layH np) upd_same (R1.new_fresh np) (R1.ref_ne np)
/-- sorted(e), e a new set of texts -/
def qfSortF (qf : QF) : QF := fun ρ κ => qf ρ fun o ρ1 => match o with
  | .set l => l.length < 64 ∧ κ (.lst ((sortS l).map PyData.str)) ρ1
  | _ => False
theorem qf_sortOf (hc : X.calm = true) (hg : Gl X "sorted") (hm : X.mg "sorted" = none) (h : PQF τ X e qf) (he : starEach [e] X.env = (false, eval e X.env) :: starEach [] X.env := by rfl) (hpl : (backTo pos (starEach [] X.env)).any (·.1) = false := by rfl) :
    PQF τ X (.Call (.Name "sorted" p) [e] [] pos) (qfSortF qf) := by
  refine pe_imp _ (pe_callB (Fu.cr_sortT hc) hg hm (by decide +kernel) (pa_cons h pa_nil he) (by decide) (by decide) he hpl) ?_
  rintro σ H Q ⟨F, ρ, C, R, κ, k, z⟩
  refine ⟨F, ρ, C, R, _, k, fun o ρ1 p' C1 H1 k1 s1 R1 ow fr rn => ?_⟩
  cases o with
  | set l =>
    refine ⟨p', l, rfl, ow, k1.1, fun ys q py sy nq => ?_⟩
    rw [sortS_of py sy] at *
    exact z _ _ _ _ _ k1.2 s1 (R1.layH nq) ⟨_, upd_same, da_strs _⟩ (R1.new_fresh nq) (R1.ref_ne nq)
  | _ => exact False.elim k1
end
end L2.Pu

set_option Elab.async false
set_option linter.all false
set_option maxRecDepth 100000
set_option maxHeartbeats 4000000
/-! ## The law's hand: a number and a count, from which it draws -/
namespace L2.Fu
open PySem PySem.Spec PyProof.Rows

/-- at p stands a hand of which at most n draws were taken; all of H0, where p is not, stands as it was -/
def Hand (H0 H : Hp) (p : Addr) (n : Nat) : Prop := Same H0 H ∧ H0 p = none ∧ ∃ g a c : Int, H p = some (.lst [.int g, .int a, .int c]) ∧ 0 ≤ a ∧ a < 2147483647 ∧ 0 ≤ c ∧ c ≤ (n : Int)
theorem Hand.at {H0 H : Hp} {p : Addr} {n : Nat} (h : Hand H0 H p n) : ∃ xs, H p = some (.lst xs) := by
  obtain ⟨_, _, g, a, c, e, _⟩ := h
  exact ⟨_, e⟩
theorem Hand.ne {H0 H : Hp} {p q : Addr} {n : Nat} (h : Hand H0 H p n) (f : H q = none) : q ≠ p := by
  obtain ⟨_, e⟩ := h.at
  exact fun z => by rw [z, e] at f; cases f
theorem Hand.mono {H0 H : Hp} {p : Addr} {m n : Nat} (h : Hand H0 H p m) (l : m ≤ n) : Hand H0 H p n := by
  obtain ⟨s, z, g, a, c, e, a0, a1, c0, c1⟩ := h
  exact ⟨s, z, g, a, c, e, a0, a1, c0, by omega⟩
/-- an object elsewhere is laid or changed: it is told -/
theorem Hand.upd {H0 H : Hp} {p q : Addr} {n : Nat} {o : HO} (h : Hand H0 H p n) (ne : q ≠ p) : Hand (upd H0 q o) (upd H q o) p n := by
  obtain ⟨s, z, g, a, c, e, r⟩ := h
  refine ⟨fun b u k => ?_, by rw [upd_ne (Ne.symm ne)]; exact z, g, a, c, by rw [upd_ne (Ne.symm ne)]; exact e, r⟩
  by_cases hb : b = q
  · subst hb
    rw [upd_same] at k ⊢
    exact k
  · rw [upd_ne hb] at k ⊢
    exact s b u k
/-- an object elsewhere that H0 doesn't tell of is laid or changed -/
theorem Hand.off {H0 H : Hp} {p q : Addr} {n : Nat} {o : HO} (h : Hand H0 H p n) (ne : q ≠ p) (f : H0 q = none) : Hand H0 (L2.upd H q o) p n := by
  obtain ⟨s, z, g, a, c, e, r⟩ := h
  refine ⟨fun b u k => ?_, z, g, a, c, by rw [upd_ne (Ne.symm ne)]; exact e, r⟩
  have hb : b ≠ q := fun t => by rw [t, f] at k; cases k
  rw [upd_ne hb]
  exact s b u k
/-- an object elsewhere is told of -/
theorem Hand.own {H0 H : Hp} {p q : Addr} {n : Nat} {o : HO} (h : Hand H0 H p n) (ne : q ≠ p) (f : H q = some o) : Hand (L2.upd H0 q o) H p n := by
  obtain ⟨s, z, r⟩ := h
  refine ⟨fun b u k => ?_, by rw [upd_ne (Ne.symm ne)]; exact z, r⟩
  by_cases hb : b = q
  · subst hb
    rw [upd_same] at k
    rw [f]
    exact k
  · rw [upd_ne hb] at k
    exact s b u k
theorem same_new {H : Hp} {q : Addr} {o : HO} (f : H q = none) : Same H (upd H q o) := fun b u k => by
  rw [upd_ne (ne_of_none k f)]
  exact k
/-- H without what stands at p -/
theorem same_del {H0 H : Hp} {p : Addr} (s : Same H0 H) (f : H0 p = none) : Same H0 (delH H p) := fun b u k => by
  have hb : b ≠ p := fun t => by rw [t, f] at k; cases k
  rw [delH_ne hb]
  exact s b u k
theorem del_sub {H : Hp} {p : Addr} : Same (delH H p) H := fun b u k => by
  by_cases hb : b = p
  · rw [hb, delH_same] at k
    cases k
  · rw [delH_ne hb] at k
    exact k
theorem Hand.full {H0 H : Hp} {p : Addr} {n : Nat} (h : Hand H0 H p n) : Hand (delH H p) H p n := by
  obtain ⟨_, _, r⟩ := h
  exact ⟨del_sub, delH_same, r⟩

/-- _law_hand(script, k) -/
def spHand (K : PySem.W.Frag) : Sp := fun vs H Q _ => ∃ (a : Addr) (ns : List Int) (k : Int), vs = [.ref a, .int k] ∧ SqL K H a (ns.map V.int) ∧ 0 ≤ k ∧ k ≤ 1000 ∧ ∀ (H' : Hp) (p : Addr), Hand H H' p 0 → Q (.ref p) H'
/-- _law_take(hand, m) -/
def spTake : Sp := fun vs H Q _ => ∃ (H0 : Hp) (p : Addr) (n : Nat) (m : Int), vs = [.ref p, .int m] ∧ 0 < m ∧ m < 2 ^ 60 ∧ n < 1000000000 ∧ Hand H0 H p n ∧ ∀ (H' : Hp) (d : Int), 0 ≤ d → d < m → Hand H0 H' p (n + 1) → Q (.int d) H'
/-- _law_of(hand, some) -/
def spOf (K : PySem.W.Frag) : Sp := fun vs H Q _ => ∃ (H0 : Hp) (p l : Addr) (n : Nat) (xs : List V), vs = [.ref p, .ref l] ∧ SqL K H0 l xs ∧ xs ≠ [] ∧ xs.length ≤ 1000000 ∧ n < 1000000000 ∧ Hand H0 H p n ∧ ∀ (H' : Hp) (v : V), v ∈ xs → Hand H0 H' p (n + 1) → Q v H'

theorem bit_small (b : Bool) : -(2 ^ 64) < (if b = true then (1 : Int) else 0) ∧ (if b = true then (1 : Int) else 0) < 2 ^ 64 := by cases b <;> decide
theorem big_pos : (0 : Int) < (10 : Int) ^ (60 : Int).toNat * (10 : Int) ^ (60 : Int).toNat * (10 : Int) ^ (60 : Int).toNat := by decide +kernel
theorem big_one : ((10 : Int) ^ (60 : Int).toNat).natAbs < 2 ^ 200 := by decide +kernel
theorem big_two : ((10 : Int) ^ (60 : Int).toNat * (10 : Int) ^ (60 : Int).toNat).natAbs < 2 ^ 400 := by decide +kernel
theorem prime_at (c : Int) (h0 : 0 ≤ c) : ∃ pr : Int, atI [V.int 2147483647, V.int 2147483629, V.int 2147483587, V.int 2147483579, V.int 2147483563] (c % 5) = some (V.int pr) ∧ 0 < pr ∧ pr < 2 ^ 32 := by
  have l0 : 0 ≤ c % 5 := Int.emod_nonneg _ (by decide)
  have l1 : c % 5 < 5 := Int.emod_lt_of_pos _ (by decide)
  generalize c % 5 = i at l0 l1
  obtain ⟨j, rfl⟩ := Int.eq_ofNat_of_zero_le l0
  have lj : j < 5 := by omega
  match j, lj with
  | 0, _ => exact ⟨2147483647, atI_nat rfl, by decide, by decide⟩
  | 1, _ => exact ⟨2147483629, atI_nat rfl, by decide, by decide⟩
  | 2, _ => exact ⟨2147483587, atI_nat rfl, by decide, by decide⟩
  | 3, _ => exact ⟨2147483579, atI_nat rfl, by decide, by decide⟩
  | 4, _ => exact ⟨2147483563, atI_nat rfl, by decide, by decide⟩
theorem small_pow {a c : Int} {n : Nat} (a0 : 0 ≤ a) (a1 : a < 2147483647) (c0 : 0 ≤ c) (c1 : c ≤ (n : Int)) (hn : n < 1000000000) : (a + 7919 * (c + 1)).natAbs < 2 ^ 64 := by omega
end L2.Fu
namespace L2.Fu
open PySem PySem.Spec PyProof.Rows
/-- a reading may be made stronger -/
theorem pe_imp {X : Cx} {e : Expr} {t : TE} (t' : TE) (p : PE X e t) (h : ∀ σ H Q, t' σ H Q → t σ H Q) : PE X e t' := ⟨fun pins s σ H Q I q => p.run pins s σ H Q I (h σ H Q q)⟩
/-- script[k] if k < len(script) else 0: some int -/
def tCell (K : PySem.W.Frag) : TE := fun σ H Q => ∃ (a : Addr) (ns : List Int) (k : Int), σ[0]? = some (some (.ref a)) ∧ σ[1]? = some (some (.int k)) ∧ SqL K H a (ns.map V.int) ∧ 0 ≤ k ∧ ∀ c : Int, Q (.int c) H
theorem atI_in {α : Type} {xs : List α} {i : Int} (h0 : 0 ≤ i) (h1 : i < (xs.length : Int)) : ∃ v, atI xs i = some v ∧ v ∈ xs := by
  obtain ⟨j, rfl⟩ := Int.eq_ofNat_of_zero_le h0
  have lj : j < xs.length := by omega
  exact ⟨xs[j], atI_nat (List.getElem?_eq_getElem lj), List.getElem_mem lj⟩
end L2.Fu
/-! ## The law's hand -/
namespace L2.Pu
open PySem PySem.Spec PyProof.Rows
/-- no new table -/
def NT (H H' : Hp) : Prop := ∀ b ps, H' b = some (.tbl ps) → H b = some (.tbl ps)
theorem Rep.more {T : PK} {F : Fm} {ρ : Ro} {C : Hp} {σ : St} {H H' : Hp} (R : Rep T F ρ C σ H) (s : Same H H') (n : NT H H') : Rep T F ρ C σ H' := by
  refine ⟨R.c0, same_trans R.sub s, fun b o k nk hr => s _ _ (R.keep b o k nk hr), R.tbl, fun b ps k => R.htb b ps (n b ps k), R.ctab, R.tabs.ext s, R.new, fun q hq => ?_, R.sys, R.len, fun i t ht => ?_, R.apart⟩
  · obtain ⟨o, ho⟩ := R.refd q hq
    exact ⟨o, s _ _ ho⟩
  · refine (R.slot i t ht).mono (same_refl _) fun p _ hc hn => ⟨hc, ?_⟩
    cases e : H p with
    | none => exact absurd e hn
    | some o => exact s _ _ e
/-- _law_hand(script, k) -/
def spHandN (K : PySem.W.Frag) : Sp := fun vs H Q _ => ∃ (a : Addr) (ns : List Int) (k : Int), vs = [.ref a, .int k] ∧ SqL K H a (ns.map V.int) ∧ 0 ≤ k ∧ k ≤ 1000 ∧ ∀ (p : Addr) (g a : Int), H p = none → 0 ≤ a → a < 2147483647 → Q (.ref p) (upd H p (.lst [.int g, .int a, .int 0]))
/-- _law_take(hand, m) -/
def spTakeN : Sp := fun vs H Q _ => ∃ (p : Addr) (g a c m : Int), vs = [.ref p, .int m] ∧ 0 < m ∧ m < 2 ^ 60 ∧ H p = some (.lst [.int g, .int a, .int c]) ∧ 0 ≤ a ∧ a < 2147483647 ∧ 0 ≤ c ∧ c < 900000000 ∧
  ∀ (H' : Hp) (d g' c' : Int), 0 ≤ d → d < m → (∀ b o, b ≠ p → H b = some o → H' b = some o) → NT H H' → H' p = some (.lst [.int g', .int a, .int c']) → 0 ≤ c' → c' ≤ c + 1 → Q (.int d) H'
def spTake : PSp := fun ss κ => match ss with
  | [.own true (.hand (b + 1)), .val (.int m)] => 0 < m ∧ m < 1000000000 ∧ ∀ x : Int, 0 ≤ x → x < m → κ (.int x) [.own true (.hand b), .un]
  | _ => False
section
variable {P : Program} {w : World} {K : PySem.W.Frag} {mg : Str → Option Value} {base : Heap} {τ : Tb}
theorem FnG.imp {CX : CXT} {k : Nat} {f : Addr} {fd : FuncData} {ps : List Str} {sp sp' : Sp} (F : Fu.FnG P w K mg base CX k f fd ps sp) (h : ∀ vs H Q E, sp' vs H Q E → sp vs H Q E) : Fu.FnG P w K mg base CX k f fd ps sp' :=
  ⟨fun vs H Q E q => F.len vs H Q E (h _ _ _ _ q), fun A outer s H args us vs Q E gd hr e b v q => F.go A outer s H args us vs Q E gd hr e b v (h _ _ _ _ q)⟩
theorem take_imp {T : PK} : ∀ vs H Q E, liftP T spTake vs H Q E → spTakeN vs H Q E := by
  rintro vs H Q E ⟨C, ss, R, κ, h, z⟩
  unfold spTake at h
  split at h
  · rename_i b m
    have l := R.len
    rw [List.length_map] at l
    match vs, l, R, z with
    | [v1, v2], _, R, z =>
      obtain ⟨p, e1, cp, g, a, c, hp, a0, a1, c0, c1⟩ := Rep.own (i := 0) R rfl
      obtain ⟨x, e2, dx⟩ := Rep.val (i := 1) R rfl
      cases e1; cases e2; cases dx
      refine ⟨p, g, a, c, m, rfl, h.1, Int.lt_trans h.2.1 (by decide), hp, a0, a1, c0, by omega, fun H' d g' c' d0 d1 ke nt hp' c0' c1' => ?_⟩
      refine z _ _ _ C _ (h.2.2 d d0 d1) (same_refl _) ?_ (.int d)
      have w : OwnAt T C (upd H p (.lst [.int g', .int a, .int c'])) p (.hand b) := ⟨g', a, c', upd_same, a0, a1, c0', by omega⟩
      have R1 := Rep.write (i := 0) R rfl rfl w
      have R2 := R1.forget (i := 1) (some (.int m))
      refine Rep.more R2 (fun q o hq => ?_) fun q ps hq => ?_
      · by_cases e : q = p
        · subst e; rw [upd_same] at hq; cases hq; exact hp'
        · rw [upd_ne e] at hq; exact ke q o e hq
      · by_cases e : q = p
        · subst e; rw [hp'] at hq; cases hq
        · rw [upd_ne e]; exact nt q ps hq
  · exact False.elim h
theorem pfn_take {k : Nat} {f : Addr} {fd : FuncData} {x : Str} {ps : List Str} (F : Fu.FnG P w K mg base CX0 k f fd ps spTakeN) (hm : mg x = some (.ref f)) (hk : PySem.W.keepIn K (.ref f) = true) (hb : Binds K fd ps []) : PFn τ P w K mg base k x ps spTake := ⟨f, fd, FnG.imp F take_imp, hm, hk, hb⟩
end
section
variable {X : Cx} {τ : Tb} {pos p : Pos} {e e1 e2 : Expr} {i : Nat} {q : QE}
/-- hand(script, k) -/
def qfHand (i : Nat) (q : QE) : QF := fun ρ κ => (∃ ns, ρ[i]? = some (.scr ns)) ∧ q ρ fun d ρ1 => match d, ρ1[i]? with
  | .int k, some (.scr _) => 0 ≤ k ∧ k ≤ 1000 ∧ κ (.hand 900000000) ρ1
  | _, _ => False
structure PFnH (P : Program) (w : World) (K : PySem.W.Frag) (mg : Str → Option Value) (base : Heap) (k : Nat) (x : Str) (ps : List Str) : Prop where
  ex : ∃ f fd, Fu.FnG P w K mg base CX0 k f fd ps (spHandN K) ∧ mg x = some (.ref f) ∧ PySem.W.keepIn K (.ref f) = true ∧ Binds K fd ps []
theorem qf_hand {k : Nat} {x : Str} {ps : List Str} (G : PFnH X.prog X.w X.K X.mg X.base k x ps) (gd : X.A.guards = some []) (hr : Room k X.A) (hg : Gl X x) (h1 : PE X e1 (tVar i)) (h2 : PQ τ X e2 q)
    (hdb : (x == ("__debug__" : Str)) = false := by decide) (he : starEach [e1, e2] X.env = (false, eval e1 X.env) :: starEach [e2] X.env := by rfl) (he2 : starEach [e2] X.env = (false, eval e2 X.env) :: starEach [] X.env := by rfl) (hpl : (backTo pos (starEach [e2] X.env)).any (·.1) = false := by rfl) :
    PQF τ X (.Call (.Name x p) [e1, e2] [] pos) (qfHand i q) := by
  obtain ⟨f, fd, F, hm, hk, hb⟩ := G.ex
  have pass : Passes CX0 X (fun _ _ _ => False) := fun _ _ _ _ _ _ _ h => h.elim
  refine pe_imp _ (Fu.pe_callG F gd hr hg hm hk hb .nil (E := fun _ _ _ => False) pass (pa_cons h1 (pa_cons h2 pa_nil he2) he) hdb he hpl) ?_
  rintro σ H Q ⟨F, ρ, C, R, κ, ⟨⟨ns, k0⟩, k⟩, z⟩
  obtain ⟨a, ha, sq⟩ := R.slot i _ k0
  refine ⟨_, ha, F, ρ, C, R, _, k, fun d ρ1 v C1 H1 k1 s1 R1 d1 => ?_⟩
  cases d1 with
  | int j =>
    split at k1
    · rename_i j' ns' e0 e1
      cases e0
      obtain ⟨a', ha', sq'⟩ := R1.slot i _ e1
      rw [ha] at ha'; cases ha'
      refine ⟨a, ns', j, rfl, SqL.mono' R1.sub sq', k1.1, k1.2.1, fun p g c np c0 c1 => ?_⟩
      exact z _ _ _ _ _ k1.2.2 s1 (R1.layH np) ⟨g, c, 0, upd_same, c0, c1, Int.le_refl _, by decide⟩ (R1.new_fresh np) (R1.ref_ne np)
    · exact False.elim k1
  | _ => exact False.elim k1
/-- len(script) -/
def qLenScr (i : Nat) : QE := fun ρ κ => match ρ[i]? with
  | some (.scr ns) => κ (.int (ns.length : Nat)) ρ
  | _ => False
theorem qe_lenScr (hg : Gl X "len") (hm : X.mg "len" = none) (h : PE X e (tVar i)) (he : starEach [e] X.env = (false, eval e X.env) :: starEach [] X.env := by rfl) (hpl : (backTo pos (starEach [] X.env)).any (·.1) = false := by rfl) : PQ τ X (.Call (.Name "len" p) [e] [] pos) (qLenScr i) := by
  refine pe_imp _ (pe_callB call_len hg hm PySem.boot_len (pa_cons h pa_nil he) (by decide) (by decide) he hpl) ?_
  rintro σ H Q ⟨F, ρ, C, R, κ, k, z⟩
  unfold qLenScr at k
  split at k
  · rename_i ns e0
    obtain ⟨a, ha, sq⟩ := R.slot i _ e0
    exact ⟨_, ha, _, _, rfl, .inl ⟨_, SqL.mono' R.sub sq, rfl⟩, z _ _ _ _ _ k (same_refl _) R (by rw [List.length_map]; exact .int _)⟩
  · exact False.elim k
end
end L2.Pu

set_option Elab.async false
set_option linter.all false
set_option maxRecDepth 100000
set_option maxHeartbeats 4000000
/-! ## Defs, with what is known of their code object -/
namespace L2.Pu
open PySem PySem.Spec PyProof.Rows
theorem apart_of {as : List CArg} (h : (refsOf as).Nodup) : Apart as := by
  induction as with
  | nil => intro k l j hk; simp at hk
  | cons a as ih =>
    intro k l j hk hl
    have tail : (refsOf as).Nodup := by
      cases a with
      | e q => exact h
      | r m => exact (List.nodup_cons.mp h).2
    cases k with
    | zero =>
      cases l with
      | zero => rfl
      | succ l =>
        simp at hk; subst hk
        exact absurd (mem_refsOf (by simpa using hl)) (List.nodup_cons.mp h).1
    | succ k =>
      cases l with
      | zero =>
        simp at hl; subst hl
        exact absurd (mem_refsOf (by simpa using hk)) (List.nodup_cons.mp h).1
      | succ l => rw [ih tail k l j (by simpa using hk) (by simpa using hl)]
section
variable {X : Cx} {τ : Tb} {i : Nat} {x : Str} {pos : Pos}
/-- the truth of a name -/
def qTruN (i : Nat) : QT := fun ρ κ => match datAt ρ i with
  | some d => match truD d with
    | some b => κ b ρ
    | none => False
  | none => False
theorem qt_truN (h : PE X (.Name x pos) (tVar i)) (he : ∀ whole, isTrue (.Name x pos) X.env whole = (do let v ← whole; standAt (Expr.Name x pos).pos; holding [v] (truthy v)) := by intro _; rfl) : PQT τ X (.Name x pos) (qTruN i) := by
  refine pt_imp _ (pt_truth h he) ?_
  rintro σ H Q ⟨F, ρ, C, R, κ, k, z⟩
  unfold qTruN at k
  split at k
  · rename_i d e0
    obtain ⟨v, hv, b⟩ := R.bo e0
    refine ⟨v, hv, ?_⟩
    cases b with
    | non => exact ⟨false, rfl, z _ _ _ _ k (same_refl _) R⟩
    | bl b => exact ⟨b, rfl, z _ _ _ _ k (same_refl _) R⟩
    | int i => exact ⟨i != 0, rfl, z _ _ _ _ k (same_refl _) R⟩
    | str x => exact False.elim k
    | lst e da => exact ⟨_, .inl ⟨_, SqL.of e, by rw [isE da]⟩, z _ _ _ _ k (same_refl _) R⟩
    | tup e _ da => exact ⟨_, .inr (.inl ⟨_, sqF (R.sub _ _ e), by rw [isE da]⟩), z _ _ _ _ k (same_refl _) R⟩
    | dic => exact False.elim k
    | dicT => exact False.elim k
  · exact False.elim k
end
section
variable {P : Program} {w : World} {K : PySem.W.Frag} {mg : Str → Option Value} {base : Heap} {τ : Tb}
/-- cdv is the code of the def at f -/
def CodeIs (K : PySem.W.Frag) (f : Addr) (cdv : Value) : Prop := ∀ (oc : Value) (od : Option Addr) (x q : Str) (ar : Arguments) (bd : List Stmt) (sc : Scope) (dV kV dc pm cd ct : Value) (an : Option Addr) (sl : Array (Option Value)),
  K.lookup f = some ⟨oc, od, .func (PySem.W.fnOf x q ar bd sc dV kV dc pm an cd ct), sl⟩ → cd = cdv
theorem okGC {x qual : Str} {st : Stmt} {f : Addr} {fd : FuncData} {N ps : List Str} {k : Nat} {sp : Sp} (F : Fun K x qual st f fd) (S : FnScope N ps (defScope st)) (len : ∀ vs H Q E, sp vs H Q E → vs.length = ps.length)
    (body : ∀ (cdv : Value) (A : Around) (outer : List Env) (s : Shared) (H : Hp) (vs : List V) (Q : VK) (E : XK), CodeIs K f cdv → (A.deeper (envOfC qual (defScope st) s.heap.objs.size f cdv)).guards = some [] →
      Room k (A.deeper (envOfC qual (defScope st) s.heap.objs.size f cdv)) → sp vs H Q E →
      ∃ t, PSs (cxOf CX0 P w K mg base N qual (defScope st) f cdv A outer s H E).nox (defBody st) t ∧ t { nx := fun _ H' => Q .non H', rt := Q } (start N vs) H) : Fu.FnG P w K mg base CX0 (k + 1) f fd ps sp := by
  obtain ⟨oc, od, kV, doc, pm, an, cdv, ct, osl, rfl, lk, hcd⟩ := F.ex
  have code : CodeIs K f cdv := fun oc' od' x' q' ar' bd' sc' dV' kV' dc' pm' cd' ct' an' sl' lk' => by
    rw [lk] at lk'
    have e1 := congrArg Obj.data (Option.some.inj lk')
    have e2 : PySem.W.fnOf x qual (defArgs st) (defBody st) (defScope st) .none kV doc pm an cdv ct = PySem.W.fnOf x' q' ar' bd' sc' dV' kV' dc' pm' an' cd' ct' := by injection e1
    exact (congrArg FuncData.code e2).symm
  refine ⟨len, fun A outer s H args us vs Q E gd hr e0 hb r hsp => ?_⟩
  have inK : K.In s.heap := e0.mod.kin.keeps fun b o e => (e0.bs b o e).1
  have par : ∀ y ∈ ps.zip us, (defScope st).names.lookup y.1 = some .local ∨ ((defScope st).names.lookup y.1 = some .cell ∧ ((cellsFrom (s.heap.objs.size + 1) (defScope st).names []).lookup y.1).isSome = true) := by
    rintro ⟨n, v⟩ hy
    rcases S.par n (List.of_mem_zip hy).1 with q | q
    · exact .inl q
    · exact .inr ⟨q, PySem.W.cellsFrom_some _ _ _ (.inl q)⟩
  refine codeAny_call_function hr.depth (inK _ _ lk) rfl S.co S.gen rfl (PySem.W.codeRec_of inK hcd) (hb _ _ _ _ ?_)
  refine wpAny_newFunctionEnv_cells S.kind par fun env he s1 x => ?_
  subst he
  refine ⟨(e0.mod.nolimit.keeps fun b o e => (e0.bs b o e).1).keeps x.toInCall.keep, codeAny_func ?_⟩
  obtain ⟨t, ht, hq⟩ := body cdv A outer s H vs Q E code gd (hr.deeper _) hsp
  have I0 := inv_start (CX := CX0) (E := E) S hr.hd e0 (len _ _ _ _ hsp) r x
  refine wpAny_mono (ht.nox.run [] s1 (start N vs) H _ I0 hq) (fun fl s' hs => ?_) fun e s' hs => hs
  cases fl with
  | ret u =>
    obtain ⟨v, σ', H', J, rv, q⟩ := hs
    exact ⟨v, H', J.os, J.bare, J.base, J.hok, rv, q⟩
  | next =>
    obtain ⟨σ', H', J, q⟩ := hs
    exact ⟨V.non, H', J.os, J.bare, J.base, J.hok, rfl, q⟩
  | brk => exact hs.elim fun _ z => z.elim fun _ z => z.2.elim
  | cont => exact hs.elim fun _ z => z.elim fun _ z => z.2.elim
/-- a def by its body, its code object told: the def itself -/
theorem fn_ofL {x : Str} {st : Stmt} {f : Addr} {fd : FuncData} {N ps : List Str} {k : Nat} {sp : PSp} (F : Fun K x x st f fd) (S : FnScope N ps (defScope st))
    (len : ∀ ss κ, sp ss κ → ss.length = ps.length)
    (body : ∀ (cdv : Value) (A : Around) (outer : List Env) (s : Shared) (H : Hp) (E : XK), CodeIs K f cdv → (A.deeper (envOfC x (defScope st) s.heap.objs.size f cdv)).guards = some [] → Room k (A.deeper (envOfC x (defScope st) s.heap.objs.size f cdv)) →
      ∃ q, PQSs τ (cxOf CX0 P w K mg base N x (defScope st) f cdv A outer s H E).nox (defBody st) q ∧ ∀ (ss : List Slot) (κ : PyData → List Slot → Prop), sp ss κ →
        q { nx := fun ρ => κ .none (ownsOf ss ρ), rt := fun d ρ => κ d (ownsOf ss ρ) } (ss ++ List.replicate (N.length - ss.length) .un)) : Fu.FnG P w K mg base CX0 (k + 1) f fd ps (liftP ⟨P, w, K, τ, base⟩ sp) := by
  refine okGC F S (fun vs H Q E h => ?_) (fun cdv A outer s H vs Q E code gd hr h => ?_)
  · obtain ⟨C, ss, R, κ, h, _⟩ := h
    have := R.len
    rw [List.length_map] at this
    rw [← this]; exact len _ _ h
  · obtain ⟨C, ss, R, κ, h, z⟩ := h
    obtain ⟨q, pq, hq⟩ := body cdv A outer s H E code gd hr
    have hl := R.len
    rw [List.length_map] at hl
    have R0 := rep_start (n := N.length - vs.length) R
    rw [← hl] at R0
    refine ⟨_, pq, ⟨C, H, refsAt 0 ss vs⟩, _, C, ?_, _, hq ss κ h, ?_, ?_, ?_, ?_⟩
    · unfold start
      rw [← hl]; exact R0
    · exact fun ρ' C' σ' H' k' s' R' => z _ _ _ _ _ k' s' (rep_end R R') .non
    · exact fun d ρ' v C' σ' H' k' s' R' d' => z _ _ _ _ _ k' s' (rep_end R R') d'
    · exact fun ρ' C' σ' H' k' => False.elim k'
    · exact fun ρ' C' σ' H' k' => False.elim k'
/-- .. as what callers know -/
theorem fn_ofC {x : Str} {st : Stmt} {f : Addr} {fd : FuncData} {N ps : List Str} {k : Nat} {sp : PSp} (F : Fun K x x st f fd) (hm : mg x = some (.ref f)) (hk : PySem.W.keepIn K (.ref f) = true) (hb : Binds K fd ps []) (S : FnScope N ps (defScope st))
    (len : ∀ ss κ, sp ss κ → ss.length = ps.length)
    (body : ∀ (cdv : Value) (A : Around) (outer : List Env) (s : Shared) (H : Hp) (E : XK), CodeIs K f cdv → (A.deeper (envOfC x (defScope st) s.heap.objs.size f cdv)).guards = some [] → Room k (A.deeper (envOfC x (defScope st) s.heap.objs.size f cdv)) →
      ∃ q, PQSs τ (cxOf CX0 P w K mg base N x (defScope st) f cdv A outer s H E).nox (defBody st) q ∧ ∀ (ss : List Slot) (κ : PyData → List Slot → Prop), sp ss κ →
        q { nx := fun ρ => κ .none (ownsOf ss ρ), rt := fun d ρ => κ d (ownsOf ss ρ) } (ss ++ List.replicate (N.length - ss.length) .un)) : PFn τ P w K mg base (k + 1) x ps sp :=
  ⟨f, fd, fn_ofL F S len body, hm, hk, hb⟩
end
end L2.Pu
namespace L2.Pu
open PySem PySem.Spec PyProof.Rows
/-- a def with lambdas of the name q: its table is known -/
structure LamFn (τ : Tb) (K : PySem.W.Frag) (mg : Str → Option Value) (base : Heap) (f : Addr) (q : Str) : Prop where
  ex : ∃ c Pt, (∀ cdv, CodeIs K f cdv → cdv = .ref c) ∧ LamX.TabB base mg c Pt ∧ (Pt, q) ∈ τ ∧ ∀ p ∈ τ, p.1 = Pt → p.2 = q
end L2.Pu
namespace L2.Pu
open PySem PySem.Spec PyProof.Rows
theorem ru64 {k : Nat} {A : Around} (r : Room k A) : A.units + 64 < cLine := by have := r.un; omega
theorem ru65 {k : Nat} {A : Around} (r : Room k A) : A.units + 65 < cLine := by have := r.un; omega
theorem ru1 {k : Nat} {A : Around} (r : Room k A) : A.units + 1 < cLine := by have := r.un; omega
theorem rdep {k : Nat} {A : Around} (r : Room k A) : A.depth < recursionLimit := by have := r.dp; omega
theorem snoc_ind {α : Type} {p : List α → Prop} (h0 : p []) (hs : ∀ l x, p l → p (l ++ [x])) (l : List α) : p l := by
  have : ∀ r : List α, p r.reverse := fun r => by
    induction r with
    | nil => exact h0
    | cons x r ih => rw [List.reverse_cons]; exact hs _ _ ih
  have := this l.reverse
  rwa [List.reverse_reverse] at this
end L2.Pu

set_option Elab.async false
set_option linter.all false
set_option maxRecDepth 100000
set_option maxHeartbeats 4000000
/-! ## Loops whose body changes nothing but their own names -/
namespace L2.Pu
open PySem PySem.Spec PyProof.Rows
theorem lcL_pure {i : Nat} {tt : QT} {te : QE} {vs : List Nat} {κ : List PyData → Ro → Prop} {ρ : Ro} (p : PyData → Bool) (f : PyData → PyData) (hw : ∀ d, wipeR (ρ.set i (.val d)) vs = ρ) : ∀ (ds acc : List PyData),
    (∀ d ∈ ds, ∀ k : Bool → Ro → Prop, k (p d) (ρ.set i (.val d)) → tt (ρ.set i (.val d)) k) → (∀ d ∈ ds, p d = true → ∀ k : PyData → Ro → Prop, k (f d) (ρ.set i (.val d)) → te (ρ.set i (.val d)) k) →
    κ (acc ++ (ds.filter p).map f) ρ → lcL (gN i) tt te vs κ ds acc ρ
  | [], acc, _, _, k => by rw [List.filter_nil, List.map_nil, List.append_nil] at k; exact k
  | d :: ds, acc, h1, h2, k => by
    refine ⟨fun acc' ρ' => acc' = (if p d = true then acc ++ [f d] else acc) ∧ ρ' = ρ, fun acc' ρ' h => ?_, ?_⟩
    · obtain ⟨rfl, rfl⟩ := h
      refine lcL_pure p f hw ds _ (fun d hd => h1 d (List.mem_cons_of_mem _ hd)) (fun d hd => h2 d (List.mem_cons_of_mem _ hd)) ?_
      rw [List.filter_cons] at k
      split
      · rename_i hp
        rw [if_pos hp, List.map_cons] at k
        rw [List.append_assoc]; exact k
      · rename_i hp
        rw [if_neg hp] at k; exact k
    · refine h1 d List.mem_cons_self _ ?_
      cases hp : p d with
      | true => exact h2 d List.mem_cons_self hp _ ⟨by simp, hw d⟩
      | false => exact ⟨by simp, hw d⟩
theorem lcL_map {i : Nat} {te : QE} {vs : List Nat} {κ : List PyData → Ro → Prop} {ρ : Ro} {ds : List PyData} (f : PyData → PyData) (hw : ∀ d, wipeR (ρ.set i (.val d)) vs = ρ)
    (h : ∀ d ∈ ds, ∀ k : PyData → Ro → Prop, k (f d) (ρ.set i (.val d)) → te (ρ.set i (.val d)) k) (k : κ (ds.map f) ρ) : lcL (gN i) qYes te vs κ ds [] ρ :=
  lcL_pure (fun _ => true) f hw ds [] (fun _ _ _ k => k) (fun d hd _ => h d hd) (by rw [List.filter_eq_self.mpr (fun _ _ => rfl), List.nil_append]; exact k)
end L2.Pu

set_option Elab.async false
set_option linter.all false
set_option maxRecDepth 100000
set_option maxHeartbeats 4000000
/-! ## Manifests and closures -/
namespace L2.Pu
open PySem PySem.Spec PyProof.Rows
abbrev Man := List (Str × List Str)
def rowD (r : Str × List Str) : PyData := .tuple [.str r.1, tupS r.2]
def manD (m : Man) : PyData := .tuple (m.map rowD)
abbrev nms (m : Man) : List Str := m.map (·.1)
def impl (m : Man) (x : Str) : List Str := ((m.find? fun r => decide (r.1 = x)).map (·.2)).getD []
/-- what is implied by what is asked for -/
inductive Rch (m : Man) (fs : List Str) : Str → Prop
  | base {x : Str} : x ∈ fs → Rch m fs x
  | step {x y : Str} : Rch m fs x → y ∈ impl m x → Rch m fs y
def ltS (a b : Str) : Prop := leS a b = true ∧ a ≠ b
structure Wf (m : Man) : Prop where
  asc : (nms m).Pairwise ltS
  inn : ∀ r ∈ m, ∀ y ∈ r.2, y ∈ nms m
  few : m.length ≤ 10
  short : ∀ r ∈ m, r.2.length ≤ 10
open Classical in
noncomputable def clo (m : Man) (fs : List Str) : List Str := (nms m).filter fun x => decide (Rch m fs x)
theorem asc_nodup {l : List Str} (h : l.Pairwise ltS) : l.Nodup := h.imp fun z => z.2
theorem asc_le {l : List Str} (h : l.Pairwise ltS) : l.Pairwise fun a b => leS a b = true := h.imp fun z => z.1
theorem perm_same {α : Type} [DecidableEq α] : ∀ {a b : List α}, a.Nodup → b.Nodup → (∀ x, x ∈ a ↔ x ∈ b) → a.Perm b
  | [], [], _, _, _ => .nil
  | [], y :: b, _, _, h => by have := (h y).mpr List.mem_cons_self; cases this
  | x :: a, b, na, nb, h => by
    have hx : x ∈ b := (h x).mp List.mem_cons_self
    obtain ⟨n1, n2⟩ := List.nodup_cons.mp na
    have ih := perm_same (a := a) (b := b.erase x) n2 (nb.erase x) fun y => by
      rw [nb.mem_erase_iff]
      constructor
      · intro hy
        exact ⟨fun e => n1 (e ▸ hy), (h y).mp (List.mem_cons_of_mem _ hy)⟩
      · rintro ⟨ne, hy⟩
        rcases List.mem_cons.mp ((h y).mpr hy) with e | e
        · exact absurd e ne
        · exact e
    exact (ih.cons x).trans (List.perm_cons_erase hx).symm
theorem sorted_same {a b : List Str} (ha : a.Pairwise ltS) (hb : b.Pairwise ltS) (h : ∀ x, x ∈ a ↔ x ∈ b) : a = b :=
  pair_uniq (perm_same (asc_nodup ha) (asc_nodup hb) h) (asc_le ha) (asc_le hb)
theorem impl_mem {m : Man} {x : Str} : ∀ y ∈ impl m x, ∃ r ∈ m, r.1 = x ∧ y ∈ r.2 := by
  intro y hy
  unfold impl at hy
  cases e : m.find? fun r => decide (r.1 = x) with
  | none => rw [e] at hy; cases hy
  | some r =>
    rw [e] at hy
    have h1 := List.find?_some e
    exact ⟨r, List.mem_of_find?_eq_some e, of_decide_eq_true h1, hy⟩
theorem Wf.impl_in {m : Man} (W : Wf m) {x y : Str} (h : y ∈ impl m x) : y ∈ nms m := by
  obtain ⟨r, hr, _, hy⟩ := impl_mem y h
  exact W.inn r hr y hy
theorem Wf.impl_short {m : Man} (W : Wf m) (x : Str) : (impl m x).length ≤ 10 := by
  unfold impl
  cases e : m.find? fun r => decide (r.1 = x) with
  | none => decide
  | some r => exact W.short r (List.mem_of_find?_eq_some e)
theorem Rch.inn {m : Man} (W : Wf m) {fs : List Str} (h : ∀ x ∈ fs, x ∈ nms m) {x : Str} (r : Rch m fs x) : x ∈ nms m := by
  cases r with
  | base hx => exact h _ hx
  | step _ hy => exact W.impl_in hy
open Classical in
theorem mem_clo {m : Man} (W : Wf m) {fs : List Str} (h : ∀ x ∈ fs, x ∈ nms m) {x : Str} : x ∈ clo m fs ↔ Rch m fs x := by
  unfold clo
  rw [List.mem_filter]
  exact ⟨fun z => of_decide_eq_true z.2, fun z => ⟨z.inn W h, decide_eq_true z⟩⟩
theorem nodup_le {α : Type} [DecidableEq α] : ∀ {a b : List α}, a.Nodup → (∀ x ∈ a, x ∈ b) → a.length ≤ b.length
  | [], _, _, _ => Nat.zero_le _
  | x :: a, b, na, h => by
    obtain ⟨n1, n2⟩ := List.nodup_cons.mp na
    have hx := h x List.mem_cons_self
    have ih := nodup_le (b := b.erase x) n2 fun y hy => (List.mem_erase_of_ne (a := y) (b := x) (fun e => n1 (by rw [← e]; exact hy))).mpr (h y (List.mem_cons_of_mem _ hy))
    have := List.length_erase_of_mem hx
    have : 0 < b.length := List.length_pos_of_mem hx
    rw [List.length_cons]; omega
theorem clo_asc {m : Man} (W : Wf m) (fs : List Str) : (clo m fs).Pairwise ltS := W.asc.filter _
/-- the state of the search: found, waiting -/
structure Wl (m : Man) (fs F ws : List Str) : Prop where
  nd : F.Nodup
  inF : ∀ x ∈ F, x ∈ nms m ∧ Rch m fs x
  inW : ∀ x ∈ ws, x ∈ nms m ∧ Rch m fs x
  start : ∀ x ∈ fs, x ∈ F ∨ x ∈ ws
  cl : ∀ x ∈ F, ∀ y ∈ impl m x, y ∈ F ∨ y ∈ ws
  few : ws.length ≤ fs.length + 10 * F.length
theorem Wl.init {m : Man} {fs : List Str} (h : ∀ x ∈ fs, x ∈ nms m) : Wl m fs [] fs := ⟨List.nodup_nil, (fun _ z => nomatch z), fun x hx => ⟨h x hx, .base hx⟩, fun _ hx => .inr hx, (fun _ z => nomatch z), by simp⟩
theorem Wl.perm {m : Man} {fs F F' ws : List Str} (w : Wl m fs F ws) (p : F.Perm F') : Wl m fs F' ws :=
  ⟨p.nodup_iff.mp w.nd, fun x hx => w.inF x (p.mem_iff.mpr hx), w.inW, fun x hx => (w.start x hx).imp p.mem_iff.mp id, fun x hx y hy => (w.cl x (p.mem_iff.mpr hx) y hy).imp p.mem_iff.mp id, by rw [← p.length_eq]; exact w.few⟩
theorem Wl.skip {m : Man} {fs F ws : List Str} {x : Str} (w : Wl m fs F (ws ++ [x])) (h : x ∈ F) : Wl m fs F ws := by
  have out : ∀ y, y ∈ F ∨ y ∈ ws ++ [x] → y ∈ F ∨ y ∈ ws := fun y hy => by
    rcases hy with hy | hy
    · exact .inl hy
    · rcases List.mem_append.mp hy with hy | hy
      · exact .inr hy
      · cases List.mem_singleton.mp hy; exact .inl h
  exact ⟨w.nd, w.inF, fun y hy => w.inW y (List.mem_append_left _ hy), fun y hy => out y (w.start y hy), fun y hy z hz => out z (w.cl y hy z hz), by have := w.few; simp at this; omega⟩
theorem Wl.fresh {m : Man} (W : Wf m) {fs F ws : List Str} {x : Str} (w : Wl m fs F (ws ++ [x])) (h : x ∉ F) : Wl m fs (x :: F) (ws ++ impl m x) := by
  have hx := w.inW x (List.mem_append_right _ List.mem_cons_self)
  have out : ∀ y, y ∈ F ∨ y ∈ ws ++ [x] → y ∈ x :: F ∨ y ∈ ws ++ impl m x := fun y hy => by
    rcases hy with hy | hy
    · exact .inl (List.mem_cons_of_mem _ hy)
    · rcases List.mem_append.mp hy with hy | hy
      · exact .inr (List.mem_append_left _ hy)
      · cases List.mem_singleton.mp hy; exact .inl List.mem_cons_self
  refine ⟨List.nodup_cons.mpr ⟨h, w.nd⟩, fun y hy => ?_, fun y hy => ?_, fun y hy => out y (w.start y hy), fun y hy z hz => ?_, ?_⟩
  · rcases List.mem_cons.mp hy with rfl | hy
    · exact hx
    · exact w.inF y hy
  · rcases List.mem_append.mp hy with hy | hy
    · exact w.inW y (List.mem_append_left _ hy)
    · exact ⟨W.impl_in hy, .step hx.2 hy⟩
  · rcases List.mem_cons.mp hy with rfl | hy
    · exact .inr (List.mem_append_right _ hz)
    · exact out z (w.cl y hy z hz)
  · have := w.few
    have := W.impl_short x
    simp at *; omega
theorem Wl.size {m : Man} (W : Wf m) {fs F ws : List Str} (w : Wl m fs F ws) : F.length ≤ 10 := by
  have : F.length ≤ (nms m).length := nodup_le w.nd fun x hx => (w.inF x hx).1
  have h := W.few
  rw [List.length_map] at this
  omega
theorem Wl.done {m : Man} (W : Wf m) {fs F : List Str} (h : ∀ x ∈ fs, x ∈ nms m) (w : Wl m fs F []) : sortS F = clo m fs := by
  have all : ∀ x, Rch m fs x → x ∈ F := fun x r => by
    induction r with
    | base hx => exact (w.start _ hx).elim id fun z => nomatch z
    | step _ hy ih => exact (w.cl _ ih _ hy).elim id fun z => nomatch z
  refine pair_uniq ((sortS_perm F).trans (perm_same w.nd (asc_nodup (clo_asc W fs)) fun x => ?_)) (sortS_pair F) (asc_le (clo_asc W fs))
  rw [mem_clo W h]
  exact ⟨fun hx => (w.inF x hx).2, all x⟩
/-! ### the manifest as a dict -/
def manE (m : Man) : List (Key × PyData) := m.map fun r => (.inr r.1, tupS r.2)
theorem pairs_man : ∀ m : Man, pairsD (m.map rowD) = some (manE m)
  | [] => rfl
  | r :: m => by rw [List.map_cons, pairsD, pairs_man m]; rfl
theorem setK_new {es : List (Key × PyData)} {k : Key} {d : PyData} (h : k ∉ es.map (·.1)) : setK es k d = es ++ [(k, d)] := by
  unfold setK
  rw [if_neg]
  intro e
  obtain ⟨x, hx, e2⟩ := List.any_eq_true.mp e
  exact h (List.mem_map.mpr ⟨x, hx, of_decide_eq_true e2⟩)
theorem merge_new : ∀ {es acc : List (Key × PyData)}, ((acc ++ es).map (·.1)).Nodup → mergeD acc es = acc ++ es
  | [], acc, _ => by rw [List.append_nil]; rfl
  | e :: es, acc, h => by
    have h2 : e.1 ∉ acc.map (·.1) := fun z => by
      rw [List.map_append, List.map_cons] at h
      exact (List.nodup_append.mp h).2.2 _ z _ List.mem_cons_self rfl
    show mergeD (setK acc e.1 e.2) es = _
    rw [setK_new h2, merge_new (acc := acc ++ [(e.1, e.2)]) (by rw [List.append_assoc]; exact h), List.append_assoc]; rfl
theorem merge_man {m : Man} (W : Wf m) : mergeD [] (manE m) = manE m := by
  refine (merge_new ?_).trans (List.nil_append _)
  rw [List.nil_append]
  have : (manE m).map (·.1) = (nms m).map Sum.inr := by unfold manE nms; rw [List.map_map, List.map_map]; rfl
  rw [this]
  exact List.pairwise_map.mpr ((asc_nodup W.asc).imp fun n e => n (Sum.inr.inj e))
theorem get_man {x : Str} : ∀ {m : Man}, x ∈ nms m → getK (manE m) (.inr x) = some (tupS (impl m x))
  | r :: m, h => by
    by_cases e : r.1 = x
    · unfold getK manE impl
      rw [List.map_cons, List.find?_cons, List.find?_cons, decide_eq_true e]
      simp [e]
    · have h2 : x ∈ nms m := by
        rcases List.mem_cons.mp h with z | z
        · exact absurd z.symm e
        · exact z
      have ih := get_man h2
      unfold getK manE impl at ih ⊢
      rw [List.map_cons, List.find?_cons, List.find?_cons, decide_eq_false e]
      have : decide ((Sum.inr r.1 : Key) = Sum.inr x) = false := decide_eq_false fun z => e (Sum.inr.inj z)
      simp only [this]
      exact ih
end L2.Pu

set_option Elab.async false
set_option linter.all false
set_option maxRecDepth 100000
set_option maxHeartbeats 4000000
/-! ## Requests -/
namespace L2.Pu
open PySem PySem.Spec PyProof.Rows
def okS (l : List Str) : Prop := ∀ x ∈ l, PyData.canLay0 (.str x) = true
theorem lay_strs : ∀ {r : List Str}, okS r → PyData.canLayAll0 (r.map PyData.str) = true
  | [], _ => rfl
  | x :: r, h => by
    rw [List.map_cons, PyData.canLayAll0, h x List.mem_cons_self, lay_strs fun y hy => h y (List.mem_cons_of_mem _ hy)]; rfl
theorem depth_strs : ∀ r : List Str, PyData.depthAll (r.map PyData.str) = 0
  | [] => rfl
  | x :: r => by simp only [List.map_cons, PyData.depthAll, PyData.depth, depth_strs r]; rfl
theorem shp_tupS {r : List Str} (h : okS r) : Shp (tupS r) := by
  show SeqAt.shaped (tupS r) = true
  unfold SeqAt.shaped tupS
  rw [Bool.and_eq_true]
  refine ⟨?_, ?_⟩
  · rw [PyData.canLay0]; exact lay_strs h
  · simp only [PyData.depth, depth_strs]; decide
theorem eqv_strs : ∀ a b : List Str, PyData.eqvAll (a.map PyData.str) (b.map PyData.str) = decide (a = b)
  | [], [] => rfl
  | [], _ :: _ => rfl
  | _ :: _, [] => rfl
  | x :: a, y :: b => by
    rw [List.map_cons, List.map_cons, PyData.eqvAll, eqv_strs a b]
    have : PyData.eqv (.str x) (.str y) = decide (x = y) := by
      rw [PyData.eqv]
      by_cases e : x = y
      · subst e; simp
      · simp [e]
    rw [this]
    by_cases e : x = y
    · subst e; by_cases e2 : a = b
      · subst e2; simp
      · simp [e2]
    · simp [e]
theorem eqv_tupS (a b : List Str) : PyData.eqv (tupS a) (tupS b) = decide (a = b) := by unfold tupS; rw [PyData.eqv]; exact eqv_strs a b
theorem tupS_inj {a b : List Str} (h : tupS a = tupS b) : a = b := by
  have := eqv_tupS a b
  unfold tupS at h
  have h2 := PyData.tuple.inj h
  clear h this
  induction a generalizing b with
  | nil => cases b with
    | nil => rfl
    | cons => cases h2
  | cons x a ih => cases b with
    | nil => cases h2
    | cons y b =>
      rw [List.map_cons, List.map_cons, List.cons.injEq] at h2
      rw [PyData.str.inj h2.1, ih h2.2]
def subsD (names : List Str) : List (List Str) := names.foldl (fun found x => found ++ found.map fun s => s ++ [x]) [[]]
theorem subsD_snoc (done : List Str) (x : Str) : subsD (done ++ [x]) = subsD done ++ (subsD done).map fun s => s ++ [x] := by unfold subsD; rw [List.foldl_append]; rfl
theorem subsD_len (names : List Str) : (subsD names).length = 2 ^ names.length := by
  refine snoc_ind (p := fun names => (subsD names).length = 2 ^ names.length) rfl (fun l x ih => ?_) names
  rw [subsD_snoc, List.length_append, List.length_map, ih, List.length_append, List.length_singleton, Nat.pow_succ]; omega
theorem subsD_sub (names : List Str) : ∀ s : List Str, s ∈ subsD names ↔ s.Sublist names := by
  refine snoc_ind (p := fun names => ∀ s : List Str, s ∈ subsD names ↔ s.Sublist names) (fun s => ?_) (fun l x ih s => ?_) names
  · rw [List.sublist_nil]; exact List.mem_singleton
  · rw [subsD_snoc, List.mem_append, List.sublist_append_iff]
    constructor
    · rintro (h | h)
      · exact ⟨s, [], by rw [List.append_nil], (ih s).mp h, List.nil_sublist _⟩
      · obtain ⟨r, hr, rfl⟩ := List.mem_map.mp h
        exact ⟨r, [x], rfl, (ih r).mp hr, List.Sublist.refl _⟩
    · rintro ⟨r, t, rfl, h1, h2⟩
      cases t with
      | nil => rw [List.append_nil]; exact .inl ((ih r).mpr h1)
      | cons y t =>
        have ht : t = [] ∧ y = x := by
          cases h2 with
          | cons _ h => cases h
          | cons_cons _ h => exact ⟨List.sublist_nil.mp h, rfl⟩
        obtain ⟨rfl, rfl⟩ := ht
        exact .inr (List.mem_map.mpr ⟨r, (ih r).mpr h1, rfl⟩)
theorem subsD_short {names s : List Str} (h : s ∈ subsD names) : s.length ≤ names.length := ((subsD_sub names s).mp h).length_le
theorem mem_sortR {rs : List (List Str)} {r : List Str} : r ∈ sortR rs ↔ r ∈ rs := (List.mergeSort_perm rs leR).mem_iff
open Classical in
noncomputable def closedL (m : Man) : List (List Str) := (sortR (subsD (nms m))).filter fun s => decide (clo m s = s)
end L2.Pu

set_option Elab.async false
set_option linter.all false
set_option maxRecDepth 100000
set_option maxHeartbeats 4000000
/-! ## Requests in their order -/
namespace L2.Pu
open PySem PySem.Spec PyProof.Rows
theorem toks_strs : ∀ {a b : List Str}, PySem.W.keyToksAll (a.map PyData.str) = PySem.W.keyToksAll (b.map PyData.str) → a = b
  | [], [], _ => rfl
  | [], y :: b, h => by simp [PySem.W.keyToksAll] at h
  | x :: a, [], h => by simp [PySem.W.keyToksAll] at h
  | x :: a, y :: b, h => by
    simp only [List.map_cons, PySem.W.keyToksAll, PySem.W.keyToks, List.cons_append, List.nil_append, List.cons.injEq, true_and] at h
    rw [toks_strs h.2, str_ext (a := x) (b := y) (Sum.inr.inj h.1)]
theorem leR_tot : PySem.W.TotalLe leR := PySem.W.sortLe_total (listOrd PyProof.Rows.itemOrd) false fun b => PySem.W.keyToks (keyOfR b)
theorem leR_anti {a b : List Str} (h1 : leR a b = true) (h2 : leR b a = true) : a = b := by
  have e : PySem.W.keyToks (keyOfR a) = PySem.W.keyToks (keyOfR b) := (listOrd PyProof.Rows.itemOrd).total _ _ (by simpa [leR, PySem.W.dataLe, PySem.W.sortLe] using h2) (by simpa [leR, PySem.W.dataLe, PySem.W.sortLe] using h1)
  simp only [keyOfR, PySem.W.keyToks, PySem.W.keyToksAll, List.cons_append, List.nil_append, List.cons.injEq, true_and, List.append_cancel_right_eq] at e
  exact toks_strs e.2
theorem sortR_pair (rs : List (List Str)) : (sortR rs).Pairwise fun a b => leR a b = true := List.pairwise_mergeSort leR_tot.trans (fun a b => by rw [Bool.or_eq_true]; exact leR_tot.total a b) rs
theorem sortR_filter (p : List Str → Bool) (rs : List (List Str)) : sortR (rs.filter p) = (sortR rs).filter p :=
  List.Perm.eq_of_pairwise (le := fun a b => leR a b = true) (fun a b _ _ x y => leR_anti x y) (sortR_pair _) ((sortR_pair rs).filter p) ((List.mergeSort_perm _ _).trans ((List.mergeSort_perm rs leR).filter p).symm)
end L2.Pu

set_option Elab.async false
set_option linter.all false
set_option maxRecDepth 100000
set_option maxHeartbeats 4000000
/-! ## How long what is shown is -/
namespace L2.Pu
open PySem PySem.Spec PyProof.Rows
structure ShowsAll (ds : List PyData) (n k : Nat) : Prop where
  can : PyData.showableAll ds = true
  few : piled (PyData.shownAll ds) ≤ n
  flat : PyData.depthAll ds ≤ k
  nodict : PyData.hasDictAll ds = false
theorem ShowsAll.nil (k : Nat) : ShowsAll [] 0 k := ⟨by simp only [PyData.showableAll], Nat.le_refl 0, Nat.zero_le k, by simp only [PyData.hasDictAll]⟩
theorem ShowsAll.cons {d : PyData} {ds : List PyData} {n m k : Nat} (h : Shows d n k) (t : ShowsAll ds m k) : ShowsAll (d :: ds) (n + 2 + m) k :=
  ⟨by simp only [PyData.showableAll, h.can, t.can, Bool.and_self], by
      simp only [PyData.shownAll, piled_cons]
      have := h.few
      have := t.few
      omega, by
      simp only [PyData.depthAll]
      exact Nat.max_le.mpr ⟨h.flat, t.flat⟩, by simp only [PyData.hasDictAll, h.nodict, t.nodict, Bool.or_self]⟩
theorem join_len (ts : List Str) : (Str.join ", " ts).length ≤ piled ts := by
  by_cases h : ts = []
  · subst h
    exact Nat.zero_le _
  · have := join_length_add ts h
    omega
theorem textFrom_le : ∀ (ts : List Str) (k : Nat) (acc : Str), (textFrom k acc ts).length ≤ acc.length + piled ts
  | [], k, acc => Nat.le_add_right _ _
  | t :: r, k, acc => by
    have ih := textFrom_le r (k + 1) (acc ++ (if k > 0 then ", " else "" : String) ++ t)
    have e : (acc ++ (if k > 0 then ", " else "" : String) ++ t).length ≤ acc.length + 2 + t.length := by
      rw [strLen_append, strLen_append]
      by_cases hk : k > 0
      · rw [if_pos hk]
        exact Nat.le_refl _
      · rw [if_neg hk]
        show acc.length + 0 + t.length ≤ _
        omega
    rw [piled_cons]
    show (textFrom (k + 1) (acc ++ (if k > 0 then ", " else "" : String) ++ t) r).length ≤ _
    omega
theorem Shows.lst {ds : List PyData} {n k : Nat} (h : ShowsAll ds n k) : Shows (.list ds) (n + 2) (k + 1) :=
  ⟨by simp only [PyData.showable, h.can], by
      simp only [PyData.shown]
      have e : (listText (PyData.shownAll ds)).length = (textFrom 0 "[" (PyData.shownAll ds)).length + 1 := by
        unfold listText
        rw [strLen_append]
        rfl
      have l := textFrom_le (PyData.shownAll ds) 0 "["
      have o : (("[" : String) : Str).length = 1 := rfl
      have := h.few
      rw [o] at l
      omega, by
      simp only [PyData.depth]
      exact Nat.succ_le_succ h.flat, by simp only [PyData.hasDict, h.nodict]⟩
theorem Shows.tup {ds : List PyData} {n k : Nat} (h : ShowsAll ds n k) : Shows (.tuple ds) (n + 3) (k + 1) :=
  ⟨by simp only [PyData.showable, h.can], by
      simp only [PyData.shown]
      have e : (tupleText (PyData.shownAll ds)).length ≤ 1 + (Str.join ", " (PyData.shownAll ds)).length + 2 := by
        unfold tupleText
        rw [strLen_append, strLen_append]
        by_cases hk : ((PyData.shownAll ds).length == 1) = true
        · rw [if_pos hk]
          exact Nat.le_refl _
        · rw [if_neg hk]
          show 1 + _ + 1 ≤ _
          omega
      have l := join_len (PyData.shownAll ds)
      have := h.few
      omega, by
      simp only [PyData.depth]
      exact Nat.succ_le_succ h.flat, by simp only [PyData.hasDict, h.nodict]⟩
theorem Shows.more {d : PyData} {n k n' k' : Nat} (h : Shows d n k) (a : n ≤ n') (b : k ≤ k') : Shows d n' k' := ⟨h.can, Nat.le_trans h.few a, Nat.le_trans h.flat b, h.nodict⟩
theorem ShowsAll.more {d : List PyData} {n k n' k' : Nat} (h : ShowsAll d n k) (a : n ≤ n') (b : k ≤ k') : ShowsAll d n' k' := ⟨h.can, Nat.le_trans h.few a, Nat.le_trans h.flat b, h.nodict⟩
theorem shows_str {x : Str} {n k : Nat} (h : (reprText x).length ≤ n) : Shows (.str x) n k := ⟨by simp only [PyData.showable], by simp only [PyData.shown]; exact h, by simp only [PyData.depth]; exact Nat.zero_le _, by simp only [PyData.hasDict]⟩
theorem shows_all {n k : Nat} : ∀ {ds : List PyData}, (∀ d ∈ ds, Shows d n k) → ShowsAll ds (ds.length * (n + 2)) k
  | [], _ => ⟨by simp only [PyData.showableAll], (by simp [piled] <;> rfl), Nat.zero_le k, by simp only [PyData.hasDictAll]⟩
  | d :: ds, h => by
    have := ShowsAll.cons (h d List.mem_cons_self) (shows_all (ds := ds) fun x hx => h x (List.mem_cons_of_mem _ hx))
    refine this.more ?_ (Nat.le_refl _)
    rw [List.length_cons, Nat.succ_mul]; omega
/-- a tuple of at most m texts of at most n signs -/
theorem shows_tupS {r : List Str} {n m : Nat} (h : ∀ x ∈ r, (reprText x).length ≤ n) (l : r.length ≤ m) : Shows (tupS r) (m * (n + 2) + 3) 1 := by
  refine (Shows.tup (k := 0) (shows_all (n := n) (k := 0) fun d hd => ?_)).more ?_ (Nat.le_refl _)
  · obtain ⟨x, hx, rfl⟩ := List.mem_map.mp hd
    exact shows_str (h x hx)
  · rw [List.length_map]
    exact Nat.add_le_add_right (Nat.mul_le_mul_right _ l) 3
end L2.Pu

set_option Elab.async false
set_option linter.all false
set_option maxRecDepth 100000
set_option maxHeartbeats 4000000
/-! ## The law's call, with tables of code objects -/
namespace L2.Pu
open PySem PySem.Spec PyProof.Rows
theorem lawT_at {P : Program} {w : World} {K : PySem.W.Frag} {mg mb : Str → Option Value} {k : Nat} {fa a : Addr} {cs : List (Addr × Addr)} {fd : FuncData} {x : Str} {sp : Heap → Sp} {s1 : Shared} {vs : List Value} {H : Hp}
    (KX : K.In s1.heap) (nsG : s1.heap.Ns mainGlobals mg) (nsB : s1.heap.Ns builtinsNs mb) (isB : ∀ x : Str, x ≠ "__name__" → mb x = bootBuiltins x) (lim : s1.heap.NoLimit) (gens : s1.gens = #[])
    (emp : ∀ p ∈ cs, s1.heap.get? p.2 = some { cls := .none, data := .fields #[] }) (outK : ∀ p ∈ cs, K.lookup p.2 = none) (hd : ∀ p ∈ cs, PySem.W.CodeHd s1.heap p.1 p.2)
    (bmod : ∃ (bm : Addr) (ob : Obj), mg "__builtins__" = some (.ref bm) ∧ bm ≠ builtinsNs ∧ s1.heap.get? bm = some ob ∧ ob.cls = .type "module" ∧ ob.dict = some builtinsNs ∧ ob.data = .plain)
    (sc : s1.heap.get? a = some { cls := .type "list", data := .seq vs.toArray }) (hr : Room k callerA)
    (F : ∀ base : Heap, K.In base → base.Ns mainGlobals mg → (∀ p ∈ cs, LamX.TabB base mg p.1 p.2) → Fu.FnG P w K mg base CX0 k fa fd [x] (sp base)) (hbind : ∀ (s : Shared) (u : Value), BindsTo s fd ⟨[u], []⟩ [(x, u)])
    (tab : ∀ p ∈ cs, H p.2 = some (.tbl #[])) (only : ∀ b, H b = none ∨ b ∈ cs.map (·.2) ∨ ∃ o xs, H b = some (.frz o (.lst xs))) (hok : HOk P w H s1.heap) (at_a : ∀ b, H b ≠ none → b = a ∨ b ∈ cs.map (·.2)) (offK : H a ≠ none → K.lookup a = none)
    (hsp : sp (hidT s1.heap H) [.ref a] H (fun v _ => v = .bl true) fun _ _ _ => False) :
    codeAny (model P w) callerA (.call (.ref fa) ⟨[.ref a], []⟩) (fun r s' => r = .ok (.ret (.bool true)) ∧ OldK s1.heap s'.heap ∧ s'.os = s1.os ∧ AllBare s'.gens) s1 := by
  have isTab : ∀ b, b ∈ cs.map (·.2) → s1.heap.get? b = some { cls := .none, data := .fields #[] } := fun b m => by
    obtain ⟨p, hp, rfl⟩ := List.mem_map.mp m
    exact emp p hp
  -- what is neither a list nor an empty table is not tracked
  have off : ∀ (b : Addr) (o : Obj), s1.heap.get? b = some o → (∀ us n, o.data ≠ .seq us n) → o.data ≠ .fields #[] → H b = none := fun b o e h1 h2 => by
    cases q : H b with
    | none => rfl
    | some u =>
      rcases at_a b (by rw [q]; exact Option.some_ne_none u) with rfl | m
      · rw [sc] at e; cases e; exact absurd rfl (h1 _ _)
      · rw [isTab b m] at e; cases e; exact absurd rfl h2
  have nsHid : ∀ (b : Addr) (m : Str → Option Value), s1.heap.Ns b m → (hidT s1.heap H).Ns b m := by
    rintro b m ⟨o, es, ep, e, d, r⟩
    refine ⟨o, es, ep, hidT_get e (off b o e (fun us n z => ?_) fun z => ?_), d, r⟩
    · rw [d] at z; cases z
    · rw [d] at z; cases z
  have inHid : K.In (hidT s1.heap H) := by
    intro b o e
    refine hidT_get (KX b o e) ?_
    cases q : H b with
    | none => rfl
    | some u =>
      have nn : H b ≠ none := by rw [q]; exact Option.some_ne_none u
      rcases at_a b nn with rfl | m
      · rw [offK nn] at e; cases e
      · obtain ⟨p, hp, rfl⟩ := List.mem_map.mp m
        rw [outK p hp] at e; cases e
  obtain ⟨mc, c1, c2⟩ := lim
  have modH : Mod K mg (hidT s1.heap H) := ⟨inHid, nsHid _ _ nsG, ⟨mb, nsHid _ _ nsB, isB⟩, ⟨mc, nsHid _ _ c1, c2⟩⟩
  have TB : ∀ p ∈ cs, LamX.TabB (hidT s1.heap H) mg p.1 p.2 := fun p hp => by
    have ep := emp p hp
    obtain ⟨og, es, epo, eg, dg, _⟩ := id nsG
    refine ⟨?_, ?_, fun z => ?_⟩
    · obtain ⟨o, us, file, tf, flags, tg, inF, text, tt, e1, r1, r2, r3, rest⟩ := hd p hp
      refine ⟨o, us, file, tf, flags, tg, inF, text, tt, hidT_get e1 (off _ _ e1 (fun _ _ z => ?_) fun z => ?_), r1, r2, r3, rest⟩
      · rw [r2] at z; cases z
      · rw [r2] at z; cases z; simp at r3
    · obtain ⟨bm, ob, b1, b2, b3, b4, b5, b6⟩ := bmod
      refine ⟨bm, ob, b1, b2, fun q => ?_, fun q => ?_, hidT_get b3 (off _ _ b3 (fun _ _ z => ?_) fun z => ?_), b4, b5, b6⟩
      · rw [q, eg] at b3; cases b3; rw [dg] at b6; cases b6
      · rw [q, ep] at b3; cases b3; cases b6
      · rw [b6] at z; cases z
      · rw [b6] at z; cases z
    · rw [z, ep] at eg; cases eg; cases dg
  have e0 : Env0 P w K mg (hidT s1.heap H) callerA [] s1 H :=
    { frames := rfl, mod := modH, bs := fun b o e => of_hidT e, bsz := Nat.le_of_eq (hidT_size _ _), funs := trivial, frf := (fun b z => nomatch z), hok := hok, bare := .of_eq gens }
  refine codeAny_mono ((F _ inHid (nsHid _ _ nsG) TB).go callerA [] s1 H ⟨[.ref a], []⟩ [.ref a] [.ref a] _ _ rfl hr e0 (hbind s1 (.ref a)) (.cons rfl .nil) hsp) fun r s' h => ?_
  match r, h with
  | .error e, h => exact h.elim
  | .ok .next, h => exact h.elim
  | .ok .brk, h => exact h.elim
  | .ok .cont, h => exact h.elim
  | .ok (.ret u), h =>
    obtain ⟨v, H', os, bare, un, hok', r', q⟩ := h
    obtain rfl : v = V.bl true := q
    obtain rfl : u = Value.bool true := r'
    have stay : ∀ b o, b ∉ cs.map (·.2) → s1.heap.get? b = some o → s'.heap.get? b = some o := fun b o nb e => by
      rcases only b with z | z | ⟨ob, xs, z⟩
      · exact un.keep b o e z (fun t => nomatch t) fun t => nomatch t
      · exact absurd z nb
      · have old := (hok b _ z).1
        rw [e] at old; cases old
        exact (hok' b _ (un.frzs b o _ z)).1
    have grown : ∀ p ∈ cs, ∃ more : Array Value, s'.heap.get? p.2 = some { cls := .none, data := .fields more } := fun p hp => by
      obtain ⟨more, z⟩ := un.tbls p.2 #[] (tab p hp)
      exact ⟨_, hok' p.2 _ z⟩
    refine ⟨rfl, ⟨fun b o e => ?_, fun b o e => ?_⟩, os, bare⟩
    · by_cases m : b ∈ cs.map (·.2)
      · obtain ⟨p, hp, rfl⟩ := List.mem_map.mp m
        obtain ⟨more, hm⟩ := grown p hp
        rw [emp p hp] at e; cases e
        exact .inr (.inl ⟨((hd p hp).tab (emp p hp)).isCodeTable, rfl, #[], more, rfl, by rw [Array.empty_append]; exact hm⟩)
      · exact .inl (stay b o m e)
    · by_cases m : b ∈ cs.map (·.2)
      · obtain ⟨p, hp, rfl⟩ := List.mem_map.mp m
        obtain ⟨more, hm⟩ := grown p hp
        exact ⟨_, hm⟩
      · exact ⟨o, stay b o m e⟩
end L2.Pu

set_option Elab.async false
set_option linter.all false
set_option maxRecDepth 100000
set_option maxHeartbeats 4000000
/-! ## The first state -/
namespace L2.Pu
open PySem PySem.Spec PyProof.Rows
/-- what is locked for good -/
def lockd (H : Hp) : Hp := fun b => match H b with
  | some (.frz o u) => some (.frz o u)
  | _ => none
theorem lockd_sub (H : Hp) : Same (lockd H) H := fun b o e => by
  unfold lockd at e
  split at e
  · rename_i ob u h; rw [h]; exact e
  · cases e
theorem lockd_of {H : Hp} {b : Addr} {o : Obj} {u : HO} (h : H b = some (.frz o u)) : lockd H b = some (.frz o u) := by
  unfold lockd; rw [h]
theorem law_start {P : Program} {w : World} {K : PySem.W.Frag} {τ : Tb} {h : Heap} {H : Hp} {a : Addr} {ns : List Int} (tab : ∀ t ∈ τ, H t.1 = some (.tbl #[]))
    (only : ∀ b, H b = none ∨ (∃ q, (b, q) ∈ τ) ∨ ∃ o xs, H b = some (.frz o (.lst xs))) (hS : SqL K H a (ns.map V.int)) (hl : ∀ xs, H a ≠ some (.lst xs)) :
    Stand ⟨P, w, K, τ, hidT h H⟩ (lockd H) H [.scr ns] [.ref a] := by
  have known : ∀ b ps, H b = some (.tbl ps) → ∃ q, (b, q) ∈ τ := fun b ps e => by
    rcases only b with z | z | ⟨o, xs, z⟩
    · rw [e] at z; cases z
    · exact z
    · rw [e] at z; cases z
  refine ⟨same_refl _, lockd_sub H, fun b o k _ _ => k, known, known, fun b o e ps z => ?_, fun t ht => LamX.TabS.nil (tab t ht), fun b o k k0 => ?_, (fun q hq => nomatch hq), ?_, rfl, fun i s hs => ?_, fun i j p r r' o o' ij hi hj _ _ => ?_⟩
  · subst z
    unfold lockd at e
    split at e
    · cases e
    · cases e
  · have k0' : lockd H b = none := k0
    rw [k] at k0'; cases k0'
  · trivial
  · cases i with
    | succ i => cases i <;> cases hs
    | zero =>
      cases hs
      refine ⟨a, rfl, ?_⟩
      rcases hS with (e | ⟨o, e⟩) | e
      · exact absurd e (hl _)
      · exact .inl (.inr ⟨o, lockd_of e⟩)
      · exact .inr e
  · cases i with
    | zero => cases hi
    | succ i => cases i <;> cases hi
end L2.Pu

set_option Elab.async false
set_option linter.all false
set_option maxRecDepth 100000
set_option maxHeartbeats 4000000
/-! ## The end -/
namespace L2.Pu
open PySem PySem.Spec PyProof.Rows
theorem endT {l : PySem.W.OpenLaw} {n k : Nat} {q : Program} {loose : List Str} {XP : (Str → Option Value) → Heap → Prop} {YP : World → Heap → Prop} {d : DefRec} {K : Params → PySem.W.Frag} {sp : PSp} {x : Str}
    (hn : l.most = some n) (hn2 : n ≤ sizeLine) (hdf : d.params.defaults = []) (hr : Room k callerA) (hY : ∀ (w : World) (h : Heap), YP w h → (K w.params).In h)
    (F : ∀ (w : World) (mg : Str → Option Value) (fa : Addr) (h : Heap), YP w h → (K w.params).In h → h.Ns mainGlobals mg → mg d.name = some (.ref fa) →
      ∃ (fd : FuncData) (ts : List (Addr × Addr × Str)), (∀ t ∈ ts, h.get? t.2.1 = some { cls := .none, data := .fields #[] } ∧ (K w.params).lookup t.2.1 = none ∧ PySem.W.CodeHd h t.1 t.2.1) ∧
        (∀ (s : Shared) (u : Value), BindsTo s fd ⟨[u], []⟩ [(x, u)]) ∧
        ∀ base : Heap, (K w.params).In base → base.Ns mainGlobals mg → (∀ t ∈ ts, LamX.TabB base mg t.1 t.2.1) → Fu.FnG l.prog w (K w.params) mg base CX0 k fa fd [x] (liftP ⟨l.prog, w, K w.params, ts.map fun t => (t.2.1, t.2.2), base⟩ sp))
    (hsp : ∀ ns : List Int, ns.length ≤ n → ∀ κ : PyData → List Slot → Prop, κ (.bool true) [.un] → sp [.scr ns] κ) :
    PySem.W.WalkO q loose XP YP l.row.toRowW d [] (fun f vs => PySem.call f vs) := by
  refine Att.attach_callB hn hdf fun w s0 s1 mg mb fa o pm cd doc a vs ns G Y ho hd hcd hmg hobj hints hlen hbits hg => ?_
  have KX := hY w _ Y
  obtain ⟨fd, ts, tabs, hb, hF⟩ := F w mg fa _ Y KX G.T.g hmg
  have rv := vals_ints hints
  have sz : ns.length ≤ sizeLine := Nat.le_trans hlen hn2
  have inT : ∀ {b : Addr}, b ∈ (ts.map fun t => (t.1, t.2.1)).map (·.2) ↔ ∃ q, (b, q) ∈ ts.map fun t => (t.2.1, t.2.2) := fun {b} => by
    constructor
    · intro m
      rw [List.map_map] at m
      obtain ⟨t, ht, rfl⟩ := List.mem_map.mp m
      exact ⟨t.2.2, List.mem_map.mpr ⟨t, ht, rfl⟩⟩
    · rintro ⟨q, m⟩
      obtain ⟨t, ht, e⟩ := List.mem_map.mp m
      cases e
      rw [List.map_map]; exact List.mem_map.mpr ⟨t, ht, rfl⟩
  have isT : ∀ b, b ∈ (ts.map fun t => (t.1, t.2.1)).map (·.2) → s1.heap.get? b = some { cls := .none, data := .fields #[] } := fun b m => by
    rw [List.map_map] at m
    obtain ⟨t, ht, rfl⟩ := List.mem_map.mp m
    exact (tabs t ht).1
  have aT : a ∉ (ts.map fun t => (t.1, t.2.1)).map (·.2) := fun z => by
    have e := isT a z
    rw [hobj] at e
    cases congrArg Obj.data (Option.some.inj e)
  have core : ∀ H : Hp, (∀ b, b ∈ (ts.map fun t => (t.1, t.2.1)).map (·.2) → H b = some (.tbl #[])) → (∀ b, H b = none ∨ b ∈ (ts.map fun t => (t.1, t.2.1)).map (·.2) ∨ ∃ o xs, H b = some (.frz o (.lst xs))) → HOk l.prog w H s1.heap →
      (∀ b, H b ≠ none → b = a ∨ b ∈ (ts.map fun t => (t.1, t.2.1)).map (·.2)) → (H a ≠ none → (K w.params).lookup a = none) → SqL (K w.params) H a (ns.map V.int) → (∀ xs, H a ≠ some (.lst xs)) →
      codeAny (model l.prog w) callerA (.call (.ref fa) ⟨[.ref a], []⟩) (fun r s' => r = .ok (.ret (.bool true)) ∧ OldK s1.heap s'.heap ∧ s'.os = s1.os ∧ AllBare s'.gens) s1 := by
    intro H hT only hok at_a offK hS hl
    refine lawT_at (cs := ts.map fun t => (t.1, t.2.1)) (sp := fun base => liftP ⟨l.prog, w, K w.params, ts.map fun t => (t.2.1, t.2.2), base⟩ sp) KX G.T.g G.T.b G.T.builtins G.T.nolimit hg (fun p hp => ?_) (fun p hp => ?_) (fun p hp => ?_) G.T.bmain hobj hr (fun base b1 b2 b3 => hF base b1 b2 fun t ht => b3 (t.1, t.2.1) (List.mem_map.mpr ⟨t, ht, rfl⟩)) hb (fun p hp => hT _ (List.mem_map.mpr ⟨p, hp, rfl⟩)) only hok at_a offK ?_
    · obtain ⟨t, ht, rfl⟩ := List.mem_map.mp hp; exact (tabs t ht).1
    · obtain ⟨t, ht, rfl⟩ := List.mem_map.mp hp; exact (tabs t ht).2.1
    · obtain ⟨t, ht, rfl⟩ := List.mem_map.mp hp; exact (tabs t ht).2.2
    · refine ⟨lockd H, [.scr ns], law_start (fun t ht => ?_) (fun b => ?_) hS hl, fun d _ => d = .bool true, hsp ns hlen _ rfl, fun d ss' v C' H' e _ _ dv => ?_⟩
      · exact hT _ (inT.mpr ⟨t.2, ht⟩)
      · rcases only b with z | z | z
        · exact .inl z
        · exact .inr (.inl (inT.mp z))
        · exact .inr (.inr z)
      · subst e; cases dv; rfl
  cases hk : (K w.params).lookup a with
  | some ob =>
    have e := KX a ob hk
    rw [hobj] at e
    cases e
    refine core (fun b => if b ∈ (ts.map fun t => (t.1, t.2.1)).map (·.2) then some (.tbl #[]) else none) (fun b m => if_pos m) (fun b => ?_) (fun b u z => ?_) (fun b z => ?_) (fun z => absurd (if_neg aT) z) (.inr ⟨_, vs.toArray, _, hk, rfl, rfl, rfl, by rw [List.size_toArray, hints.length]; exact sz, by simpa using rv⟩) (fun xs z => ?_)
    · by_cases m : b ∈ (ts.map fun t => (t.1, t.2.1)).map (·.2)
      · exact .inr (.inl m)
      · exact .inl (if_neg m)
    · by_cases m : b ∈ (ts.map fun t => (t.1, t.2.1)).map (·.2)
      · cases (if_pos m).symm.trans z; exact isT b m
      · cases (if_neg m).symm.trans z
    · by_cases m : b ∈ (ts.map fun t => (t.1, t.2.1)).map (·.2)
      · exact .inr m
      · exact absurd (if_neg m) z
    · cases (if_neg aT).symm.trans z
  | none =>
    refine core (fun b => if b = a then some (.frz { cls := .type "list", data := .seq vs.toArray } (.lst (ns.map V.int))) else if b ∈ (ts.map fun t => (t.1, t.2.1)).map (·.2) then some (.tbl #[]) else none)
      (fun b m => (if_neg (fun z : b = a => aT (z ▸ m))).trans (if_pos m)) (fun b => ?_) (fun b u z => ?_) (fun b z => ?_) (fun _ => hk) (.inl (.inr ⟨_, if_pos rfl⟩)) (fun xs z => ?_)
    · by_cases e : b = a
      · exact .inr (.inr ⟨_, _, if_pos e⟩)
      · by_cases m : b ∈ (ts.map fun t => (t.1, t.2.1)).map (·.2)
        · exact .inr (.inl m)
        · exact .inl ((if_neg e).trans (if_neg m))
    · by_cases e : b = a
      · cases (if_pos e).symm.trans z
        rw [e]
        exact ⟨hobj, by rw [List.length_map]; exact sz, vs, _, rv, hobj⟩
      · have z1 := (if_neg e).symm.trans z
        by_cases m : b ∈ (ts.map fun t => (t.1, t.2.1)).map (·.2)
        · cases (if_pos m).symm.trans z1; exact isT b m
        · cases (if_neg m).symm.trans z1
    · by_cases e : b = a
      · exact .inl e
      · by_cases m : b ∈ (ts.map fun t => (t.1, t.2.1)).map (·.2)
        · exact .inr m
        · exact absurd ((if_neg e).trans (if_neg m)) z
    · cases (if_pos rfl).symm.trans z
end L2.Pu

set_option Elab.async false
set_option linter.all false
set_option maxRecDepth 100000
set_option maxHeartbeats 4000000
/-! ## Names, requests, closures: what is true of them -/
namespace L2.Pu
open PySem PySem.Spec PyProof.Rows
def lettersS : Str := "abcdefghijklmnopqrstuvwxyz"
def nameS (x : Str) : Bool := decide (1 ≤ x.length) && decide (x.length ≤ 8) && x.cps.toList.all fun c => decide (c ∈ lettersS.cps.toList)
def nameB : PyData → Bool
  | .str x => nameS x
  | _ => false
/-- what isinstance and len can look at -/
structure Seen1 (d : PyData) : Prop where
  nd : ∀ x y r, d ≠ .dict ((.tuple x, y) :: r)
  few : ∀ x, d = .str x → x.length ≤ 16000000
theorem seen_str {x : Str} (h : x.length ≤ 16000000) : Seen1 (.str x) := ⟨(fun _ _ _ e => nomatch e), fun y e => by cases e; exact h⟩
def signB : PyData → Bool
  | .str a => match a.cps.toList with
    | [c] => decide (c ∈ lettersS.cps.toList)
    | _ => false
  | _ => false
theorem lt_iff {a b : Str} : a.cps.toList < b.cps.toList ↔ ltS a b := by
  constructor
  · intro h
    have nb : ¬ leS b a = true := fun z => leS_iff.mp z h
    have t := leS_total a b
    rw [Bool.or_eq_true] at t
    have ab : leS a b = true := t.resolve_right nb
    exact ⟨ab, fun e => nb (e ▸ ab)⟩
  · rintro ⟨h, ne⟩
    by_cases c : a.cps.toList < b.cps.toList
    · exact c
    · exact absurd (leS_anti h (leS_iff.mpr c)) ne
theorem ltS_trans {a b c : Str} (h1 : ltS a b) (h2 : ltS b c) : ltS a c := ⟨leS_trans _ _ _ h1.1 h2.1, fun e => h1.2 (leS_anti h1.1 (e ▸ h2.1))⟩
def upB (r : List Str) (i : Nat) : Bool := match r[i]?, r[i + 1]? with
  | some a, some b => decide (a.cps.toList < b.cps.toList)
  | _, _ => false
theorem pair_of_up : ∀ r : List Str, (∀ i, i + 1 < r.length → upB r i = true) → r.Pairwise ltS
  | [], _ => .nil
  | [a], _ => List.pairwise_singleton _ _
  | a :: b :: t, h => by
    have ih := pair_of_up (b :: t) fun i hi => h (i + 1) (by simpa using hi)
    have ab : ltS a b := lt_iff.mp (of_decide_eq_true (h 0 (by simp)))
    refine List.pairwise_cons.mpr ⟨fun c hc => ?_, ih⟩
    rcases List.mem_cons.mp hc with rfl | hc
    · exact ab
    · exact ltS_trans ab ((List.pairwise_cons.mp ih).1 c hc)
theorem up_of_pair {r : List Str} (h : r.Pairwise ltS) {i : Nat} (hi : i + 1 < r.length) : upB r i = true := by
  unfold upB
  rw [List.getElem?_eq_getElem (by omega), List.getElem?_eq_getElem hi]
  exact decide_eq_true (lt_iff.mpr (List.pairwise_iff_getElem.mp h i (i + 1) (by omega) hi (by omega)))
open Classical in
theorem up_all (r : List Str) : ((List.range (r.length - 1)).map (upB r)).all id = decide (r.Pairwise ltS) := by
  rw [Bool.eq_iff_iff, List.all_eq_true, decide_eq_true_iff]
  constructor
  · intro h
    exact pair_of_up r fun i hi => h _ (List.mem_map.mpr ⟨i, List.mem_range.mpr (by omega), rfl⟩)
  · intro h b hb
    obtain ⟨i, hi, rfl⟩ := List.mem_map.mp hb
    exact up_of_pair h (by have := List.mem_range.mp hi; omega)
open Classical in
/-- an ascending tuple of names -/
noncomputable def ascB (d : PyData) : Bool := decide (∃ r : List Str, d = tupS r ∧ (∀ x ∈ r, nameS x = true) ∧ r.Pairwise ltS)
open Classical in
/-- a request -/
noncomputable def reqB (m : Man) (d : PyData) : Bool := decide (∃ r : List Str, d = tupS r ∧ (∀ x ∈ r, nameS x = true) ∧ r.Pairwise ltS ∧ ∀ x ∈ r, x ∈ nms m)
theorem strs_of_names : ∀ {ds : List PyData}, (∀ d ∈ ds, nameB d = true) → ∃ r : List Str, ds = r.map PyData.str ∧ ∀ x ∈ r, nameS x = true
  | [], _ => ⟨[], rfl, (fun _ z => nomatch z)⟩
  | d :: ds, h => by
    obtain ⟨r, e, hr⟩ := strs_of_names (ds := ds) fun d hd => h d (List.mem_cons_of_mem _ hd)
    have := h d List.mem_cons_self
    cases d with
    | str x => exact ⟨x :: r, by rw [e]; rfl, fun y hy => (List.mem_cons.mp hy).elim (fun z => z ▸ this) (hr y)⟩
    | _ => cases this
structure SeenT (d : PyData) : Prop where
  one : Seen1 d
  all : ∀ ds, d = .tuple ds → (∀ e ∈ ds, Seen1 e) ∧ ds.length ≤ 1000000
theorem nameS_few {x : Str} (h : nameS x = true) : x.length ≤ 8 := by
  unfold nameS at h
  rw [Bool.and_eq_true, Bool.and_eq_true] at h
  exact of_decide_eq_true h.1.2
theorem seenT_of {r : List Str} (h : ∀ x ∈ r, x.length ≤ 16000000) (l : r.length ≤ 1000000) : SeenT (tupS r) := by
  refine ⟨⟨(fun _ _ _ e => nomatch e), (fun _ e => nomatch e)⟩, fun ds e => ?_⟩
  cases e
  refine ⟨fun e he => ?_, by rw [List.length_map]; exact l⟩
  obtain ⟨x, hx, rfl⟩ := List.mem_map.mp he
  exact seen_str (h x hx)
theorem any_eqv_strs (x : Str) : ∀ r : List Str, (r.map PyData.str).any (fun z => PyData.eqv z (.str x)) = decide (x ∈ r)
  | [] => by simp
  | y :: r => by
    rw [List.map_cons, List.any_cons, any_eqv_strs x r]
    rw [Bool.eq_iff_iff, Bool.or_eq_true, decide_eq_true_iff, decide_eq_true_iff, List.mem_cons]
    have : PyData.eqv (.str y) (.str x) = true ↔ x = y := by
      simp only [PyData.eqv]
      constructor
      · intro h; exact (by simpa using h : y = x).symm
      · intro h; subst h; simp
    rw [this]
theorem any_eqv_tups (x : List Str) : ∀ rs : List (List Str), (rs.map tupS).any (fun z => PyData.eqv z (tupS x)) = decide (x ∈ rs)
  | [] => by simp
  | y :: r => by
    rw [List.map_cons, List.any_cons, any_eqv_tups x r, eqv_tupS]
    rw [Bool.eq_iff_iff, Bool.or_eq_true, decide_eq_true_iff, decide_eq_true_iff, decide_eq_true_iff, List.mem_cons]
    exact or_congr ⟨Eq.symm, Eq.symm⟩ Iff.rfl
theorem flat_strs (r : List Str) : (r.map PyData.str).all flatD = true := by
  rw [List.all_eq_true]
  intro d hd
  obtain ⟨x, _, rfl⟩ := List.mem_map.mp hd
  rfl
/-! ### the order of requests -/
theorem leR_short {a b : List Str} (h : a.length < b.length) : leR a b = true := by
  have n1 : ¬ ((b.length : Int) < a.length) := by omega
  have n2 : ((a.length : Int) < b.length) := by omega
  simp [leR, PySem.W.dataLe, PySem.W.sortLe, keyOfR, PySem.W.keyToks, PySem.W.keyToksAll, PyProof.Rows.lexLt, PyProof.Rows.itemLt, n1, n2]
theorem leR_len {a b : List Str} (h : leR a b = true) : a.length ≤ b.length := by
  by_cases c : a.length ≤ b.length
  · exact c
  · have := leR_anti h (leR_short (by omega)); subst this; exact Nat.le_refl _
theorem leR_refl (a : List Str) : leR a a = true := (leR_tot.total a a).elim id id
/-- a request that all others contain stands first -/
theorem head_of {rs : List (List Str)} (hs : rs.Pairwise fun a b => leR a b = true) {x : List Str} (hx : x ∈ rs) (h : ∀ y ∈ rs, leR x y = true) : rs[0]? = some x := by
  cases rs with
  | nil => cases hx
  | cons y rs =>
    have h1 := h y List.mem_cons_self
    rcases List.mem_cons.mp hx with rfl | hx
    · rfl
    · rw [leR_anti h1 ((List.pairwise_cons.mp hs).1 x hx)]; rfl
theorem last_of {rs : List (List Str)} (hs : rs.Pairwise fun a b => leR a b = true) {x : List Str} (hx : x ∈ rs) (h : ∀ y ∈ rs, leR y x = true) : rs.getLast? = some x := by
  rcases List.eq_nil_or_concat rs with rfl | ⟨r, y, rfl⟩
  · cases hx
  · rw [List.concat_eq_append] at *
    rw [List.getLast?_append, List.getLast?_singleton]
    have hp := List.pairwise_append.mp hs
    have h1 := h y (List.mem_append_right _ List.mem_cons_self)
    rcases List.mem_append.mp hx with hx | hx
    · rw [leR_anti h1 (hp.2.2 x hx y List.mem_cons_self)]; rfl
    · cases List.mem_singleton.mp hx; rfl
theorem leR_sub {a b : List Str} (h : a.Sublist b) : leR a b = true := by
  rcases Nat.lt_or_ge a.length b.length with l | l
  · exact leR_short l
  · rw [h.eq_of_length_le l]; exact leR_refl b
/-! ### closures -/
theorem sub_of_asc {a b : List Str} (ha : a.Pairwise ltS) (hb : b.Pairwise ltS) (h : ∀ x ∈ a, x ∈ b) : a.Sublist b := by
  have : a = b.filter fun x => decide (x ∈ a) := sorted_same ha (hb.filter _) fun x => by
    rw [List.mem_filter, decide_eq_true_iff]
    exact ⟨fun z => ⟨h x z, z⟩, fun z => z.2⟩
  rw [this]; exact List.filter_sublist
section
variable {m : Man}
theorem clo_in (W : Wf m) {fs : List Str} : ∀ x ∈ clo m fs, x ∈ nms m := fun x hx => (List.mem_filter.mp hx).1
theorem clo_sub {fs : List Str} : (clo m fs).Sublist (nms m) := List.filter_sublist
theorem clo_self (W : Wf m) {fs : List Str} (h : ∀ x ∈ fs, x ∈ nms m) {x : Str} (hx : x ∈ fs) : x ∈ clo m fs := (mem_clo W h).mpr (.base hx)
theorem Rch.mono {fs gs : List Str} (h : ∀ x ∈ fs, Rch m gs x) {x : Str} (r : Rch m fs x) : Rch m gs x := by
  induction r with
  | base z => exact h _ z
  | step _ z ih => exact .step ih z
theorem clo_mono (W : Wf m) {fs gs : List Str} (hf : ∀ x ∈ fs, x ∈ nms m) (hg : ∀ x ∈ gs, x ∈ nms m) (h : ∀ x ∈ fs, x ∈ clo m gs) : ∀ x ∈ clo m fs, x ∈ clo m gs := fun x hx =>
  (mem_clo W hg).mpr (((mem_clo W hf).mp hx).mono fun y hy => (mem_clo W hg).mp (h y hy))
theorem clo_clo (W : Wf m) {fs : List Str} (h : ∀ x ∈ fs, x ∈ nms m) : clo m (clo m fs) = clo m fs :=
  sorted_same (clo_asc W _) (clo_asc W _) fun x => ⟨clo_mono W (clo_in W) h (fun y hy => hy) x, fun hx => clo_self W (clo_in W) hx⟩
theorem mem_closedL (W : Wf m) {c : List Str} : c ∈ closedL m ↔ c.Sublist (nms m) ∧ clo m c = c := by
  unfold closedL
  rw [List.mem_filter, mem_sortR, subsD_sub]
  exact and_congr Iff.rfl decide_eq_true_iff
theorem clo_closed (W : Wf m) {fs : List Str} (h : ∀ x ∈ fs, x ∈ nms m) : clo m fs ∈ closedL m := (mem_closedL W).mpr ⟨clo_sub, clo_clo W h⟩
theorem closedL_pair (m : Man) : (closedL m).Pairwise fun a b => leR a b = true := (sortR_pair _).filter _
/-- what stands above a request -/
theorem above_sub (W : Wf m) {one c : List Str} (ho : ∀ x ∈ one, x ∈ nms m) (hc : c ∈ closedL m) (h : ∀ x ∈ one, x ∈ c) : (clo m one).Sublist c := by
  obtain ⟨sc, ec⟩ := (mem_closedL W).mp hc
  refine sub_of_asc (clo_asc W _) (W.asc.sublist sc) fun x hx => ?_
  have := clo_mono W ho (fun y hy => sc.subset hy) (fun y hy => ec.symm ▸ h y hy) x hx
  rwa [ec] at this
end
def bothS (a b : List Str) : List Str := sortS (Fu.allL (a ++ b))
theorem allL_nodup : ∀ (ts : List Str), (Fu.allL ts).Nodup := fun ts => by
  refine snoc_ind (p := fun ts => (Fu.allL ts).Nodup) ?_ (fun l x ih => ?_) ts
  · exact List.nodup_nil
  · rw [Fu.allL_snoc]
    unfold Fu.addL
    split
    · exact ih
    · rename_i h
      first
        | exact List.nodup_cons.mpr ⟨h, ih⟩
        | (refine List.nodup_append.mpr ⟨ih, List.nodup_cons.mpr ⟨List.not_mem_nil, List.nodup_nil⟩, ?_⟩
           intro a ha b hb e
           cases List.mem_singleton.mp hb
           exact h (e ▸ ha))
theorem mem_bothS {a b : List Str} {x : Str} : x ∈ bothS a b ↔ x ∈ a ∨ x ∈ b := by
  unfold bothS
  rw [(sortS_perm _).mem_iff, Fu.mem_allL, List.mem_append]
theorem bothS_asc (a b : List Str) : (bothS a b).Pairwise ltS := by
  unfold bothS
  have nd : (sortS (Fu.allL (a ++ b))).Nodup := (sortS_perm _).nodup_iff.mpr (allL_nodup _)
  exact (List.Pairwise.and (sortS_pair _) nd).imp fun ⟨x, y⟩ => ⟨x, y⟩
theorem bothS_len (a b : List Str) : (Fu.allL (a ++ b)).length ≤ a.length + b.length := Nat.le_trans (Fu.len_allL _) (by rw [List.length_append]; exact Nat.le_refl _)
section
variable {m : Man}
theorem clo_both (W : Wf m) {a b : List Str} (ha : ∀ x ∈ a, x ∈ nms m) (hb : ∀ x ∈ b, x ∈ nms m) : clo m (bothS a b) = bothS (clo m a) (clo m b) := by
  have hab : ∀ x ∈ bothS a b, x ∈ nms m := fun x hx => (mem_bothS.mp hx).elim (ha x) (hb x)
  refine sorted_same (clo_asc W _) (bothS_asc _ _) fun x => ?_
  rw [mem_bothS, mem_clo W hab, mem_clo W ha, mem_clo W hb]
  constructor
  · intro r
    induction r with
    | base h => exact (mem_bothS.mp h).imp .base .base
    | step _ h ih => exact ih.imp (.step · h) (.step · h)
  · rintro (r | r)
    · exact r.mono fun y hy => .base (mem_bothS.mpr (.inl hy))
    · exact r.mono fun y hy => .base (mem_bothS.mpr (.inr hy))
theorem common_closed (W : Wf m) {a b : List Str} (ha : ∀ x ∈ a, x ∈ nms m) (hb : ∀ x ∈ b, x ∈ nms m) : ((clo m a).filter fun x => decide (x ∈ clo m b)) ∈ closedL m := by
  have sub : ((clo m a).filter fun x => decide (x ∈ clo m b)).Sublist (nms m) := List.filter_sublist.trans clo_sub
  refine (mem_closedL W).mpr ⟨sub, sorted_same (clo_asc W _) ((clo_asc W a).filter _) fun x => ?_⟩
  rw [mem_clo W fun y hy => sub.subset hy]
  constructor
  · intro r
    induction r with
    | base h => exact h
    | step _ h ih =>
      have i1 := (List.mem_filter.mp ih).1
      have i2 := of_decide_eq_true (List.mem_filter.mp ih).2
      exact List.mem_filter.mpr ⟨(mem_clo W ha).mpr (.step ((mem_clo W ha).mp i1) h), decide_eq_true ((mem_clo W hb).mpr (.step ((mem_clo W hb).mp i2) h))⟩
  · exact .base
open Classical in
/-- the requests with the closure of r -/
noncomputable def sameL (m : Man) (r : List Str) : List (List Str) := (sortR (subsD (nms m))).filter fun s => decide (clo m s = clo m r)
noncomputable def leastL (m : Man) (r : List Str) : List (List Str) := (sameL m r).filter fun s => decide (s.length = ((sameL m r)[0]?.getD []).length)
theorem mem_sameL {r s : List Str} : s ∈ sameL m r ↔ s.Sublist (nms m) ∧ clo m s = clo m r := by
  unfold sameL
  rw [List.mem_filter, mem_sortR, subsD_sub]
  exact and_congr Iff.rfl decide_eq_true_iff
theorem same_first {r s : List Str} (h : s ∈ sameL m r) : ∃ t, (sameL m r)[0]? = some t ∧ t.length ≤ s.length := by
  have hp : (sameL m r).Pairwise fun a b => leR a b = true := (sortR_pair _).filter _
  cases e : sameL m r with
  | nil => rw [e] at h; cases h
  | cons t ts =>
    rw [e] at h hp
    refine ⟨t, rfl, ?_⟩
    rcases List.mem_cons.mp h with rfl | h
    · exact Nat.le_refl _
    · exact leR_len ((List.pairwise_cons.mp hp).1 s h)
theorem mem_leastL {r s : List Str} : s ∈ leastL m r ↔ (s.Sublist (nms m) ∧ clo m s = clo m r) ∧ ∀ t, t.Sublist (nms m) → clo m t = clo m r → s.length ≤ t.length := by
  unfold leastL
  rw [List.mem_filter, decide_eq_true_iff, mem_sameL]
  refine and_congr_right fun hs => ?_
  obtain ⟨t, e, ht⟩ := same_first (mem_sameL.mpr hs)
  have ht1 := mem_sameL.mp (List.mem_of_getElem? e)
  rw [e]
  show s.length = t.length ↔ _
  constructor
  · intro l u hu1 hu2
    obtain ⟨t', e', ht'⟩ := same_first (mem_sameL.mpr ⟨hu1, hu2⟩)
    rw [e] at e'; cases e'; omega
  · intro h
    have := h t ht1.1 ht1.2
    omega
end
end L2.Pu

set_option Elab.async false
set_option linter.all false
set_option maxRecDepth 100000
set_option maxHeartbeats 4000000
/-! ## Formulas, libraries, views -/
namespace L2.Pu
open PySem PySem.Spec PyProof.Rows
inductive Fo where
  | ft (x : Str)
  | nd (h : Str) (ps : List Fo)
mutual
def fD : Fo → PyData
  | .ft x => .tuple [.str "feature", .str x]
  | .nd h ps => .tuple (.str h :: fDs ps)
def fDs : List Fo → List PyData
  | [] => []
  | f :: fs => fD f :: fDs fs
end
theorem fDs_map : ∀ ps : List Fo, fDs ps = ps.map fD
  | [] => by simp only [fDs, List.map_nil]
  | f :: fs => by simp only [fDs, List.map_cons, fDs_map fs]
mutual
def tall : Fo → Nat
  | .ft _ => 1
  | .nd _ ps => tallAll ps + 1
def tallAll : List Fo → Nat
  | [] => 0
  | f :: fs => max (tall f) (tallAll fs)
end
mutual
def hold (S : List Str) : Fo → Bool
  | .ft x => decide (x ∈ S)
  | .nd h ps => if h = "not" then !((holdL S ps).headD false) else if h = "all" then (holdL S ps).all id else (holdL S ps).any id
def holdL (S : List Str) : List Fo → List Bool
  | [] => []
  | f :: fs => hold S f :: holdL S fs
end
theorem holdL_map (S : List Str) : ∀ ps : List Fo, holdL S ps = ps.map (hold S)
  | [] => by simp only [holdL, List.map_nil]
  | f :: fs => by simp only [holdL, List.map_cons, holdL_map S fs]
def heads : List Str := ["all", "any", "not"]
mutual
/-- a formula over the names N, with at most ten parts -/
def okF (N : List Str) : Fo → Prop
  | .ft x => x ∈ N
  | .nd h ps => h ∈ heads ∧ (h = "not" → ps.length = 1) ∧ ps.length ≤ 10 ∧ okFs N ps
def okFs (N : List Str) : List Fo → Prop
  | [] => True
  | f :: fs => okF N f ∧ okFs N fs
end
theorem okFs_iff (N : List Str) : ∀ ps : List Fo, okFs N ps ↔ ∀ f ∈ ps, okF N f
  | [] => by simp [okFs]
  | f :: fs => by simp only [okFs, okFs_iff N fs, List.mem_cons, forall_eq_or_imp]
theorem tallAll_le {n : Nat} : ∀ {ps : List Fo}, tallAll ps ≤ n ↔ ∀ f ∈ ps, tall f ≤ n
  | [] => by simp [tallAll]
  | f :: fs => by simp only [tallAll, Nat.max_le, tallAll_le (ps := fs), List.mem_cons, forall_eq_or_imp]
def parts : Fo → List Fo
  | .ft _ => []
  | .nd _ ps => ps
theorem heads_cases {h : Str} (e : h ∈ heads) : h = "all" ∨ h = "any" ∨ h = "not" := by
  unfold heads at e
  simpa only [List.mem_cons, List.not_mem_nil, or_false] using e
theorem heads_nf {h : Str} (e : h ∈ heads) : h ≠ "feature" := by
  rcases heads_cases e with rfl | rfl | rfl <;> decide +kernel
/-! ### libraries -/
abbrev Rw := List (Fo × Int)
abbrev Its := List (Str × Rw)
def rwD (r : Fo × Int) : PyData := .tuple [fD r.1, .int r.2]
def itD (i : Str × Rw) : PyData := .tuple [.str i.1, .tuple (i.2.map rwD)]
def libD (m : Man) (is : Its) : PyData := .tuple [manD m, .tuple (is.map itD)]
def optD : Option Int → PyData
  | some v => .int v
  | none => .none
/-- the first row whose formula holds -/
def verOf (S : List Str) : Rw → Option Int
  | [] => none
  | (f, v) :: rs => if hold S f = true then some v else verOf S rs
def prD (p : Str × Int) : PyData := .tuple [.str p.1, .int p.2]
def viewL (is : Its) (S : List Str) : List (Str × Int) := is.filterMap fun i => (verOf S i.2).map fun v => (i.1, v)
structure OkI (N : List Str) (is : Its) : Prop where
  few : is.length ≤ 12
  rows : ∀ i ∈ is, i.2.length ≤ 10 ∧ ∀ r ∈ i.2, okF N r.1 ∧ tall r.1 ≤ 5 ∧ 0 ≤ r.2 ∧ r.2 ≤ 99
  nam : ∀ i ∈ is, i.1.length ≤ 8 ∧ PyData.canLay0 (.str i.1) = true
theorem prD_inj {p q : Str × Int} (h : prD p = prD q) : p = q := by
  unfold prD at h
  injection h with h
  injection h with h1 h2
  injection h1 with h1
  injection h2 with h2 _
  injection h2 with h2
  exact Prod.ext h1 h2
theorem eqv_prD (p q : Str × Int) : PyData.eqv (prD p) (prD q) = decide (p = q) := by
  unfold prD
  simp only [PyData.eqv, PyData.eqvAll, Bool.and_true]
  rw [Bool.eq_iff_iff, Bool.and_eq_true, decide_eq_true_iff]
  constructor
  · rintro ⟨a, b⟩
    exact Prod.ext (by simpa using a) (by simpa using b)
  · rintro rfl
    exact ⟨by simp, by simp⟩
theorem any_eqv_pairs (x : Str × Int) : ∀ rs : List (Str × Int), (rs.map prD).any (fun z => PyData.eqv z (prD x)) = decide (x ∈ rs)
  | [] => by simp
  | y :: r => by
    rw [List.map_cons, List.any_cons, any_eqv_pairs x r, eqv_prD]
    rw [Bool.eq_iff_iff, Bool.or_eq_true, decide_eq_true_iff, decide_eq_true_iff, decide_eq_true_iff, List.mem_cons]
    exact or_congr ⟨Eq.symm, Eq.symm⟩ Iff.rfl
/-- pairs that can be compared -/
def okP (ps : List (Str × Int)) : Prop := ∀ p ∈ ps, PyData.canLay0 (.str p.1) = true ∧ PyData.canLay0 (.int p.2) = true
theorem lay_pair {p : Str × Int} (h : PyData.canLay0 (.str p.1) = true ∧ PyData.canLay0 (.int p.2) = true) : PyData.canLay0 (prD p) = true := by
  unfold prD
  rw [PyData.canLay0, PyData.canLayAll0, PyData.canLayAll0, PyData.canLayAll0, h.1, h.2]; rfl
theorem shp_prD {p : Str × Int} (h : PyData.canLay0 (.str p.1) = true ∧ PyData.canLay0 (.int p.2) = true) : Shp (prD p) := by
  show SeqAt.shaped _ = true
  unfold SeqAt.shaped
  rw [Bool.and_eq_true]
  exact ⟨lay_pair h, decide_eq_true (by simp only [prD, PyData.depth, PyData.depthAll]; omega)⟩
theorem lay_pairs : ∀ {ps : List (Str × Int)}, okP ps → PyData.canLayAll0 (ps.map prD) = true
  | [], _ => rfl
  | p :: ps, h => by
    rw [List.map_cons, PyData.canLayAll0, lay_pair (h p List.mem_cons_self), lay_pairs fun q hq => h q (List.mem_cons_of_mem _ hq)]; rfl
theorem depth_pairs : ∀ ps : List (Str × Int), PyData.depthAll (ps.map prD) ≤ 1
  | [] => Nat.zero_le _
  | p :: ps => by
    have := depth_pairs ps
    simp only [List.map_cons, PyData.depthAll, prD, PyData.depth] at this ⊢
    exact Nat.max_le.mpr ⟨by decide, this⟩
theorem shp_pairs {ps : List (Str × Int)} (h : okP ps) : Shp (.list (ps.map prD)) ∧ Shp (.tuple (ps.map prD)) := by
  have d := depth_pairs ps
  have l := lay_pairs h
  constructor
  · show SeqAt.shaped _ = true
    unfold SeqAt.shaped
    rw [Bool.and_eq_true]
    exact ⟨by rw [PyData.canLay0]; exact l, decide_eq_true (by simp only [PyData.depth]; omega)⟩
  · show SeqAt.shaped _ = true
    unfold SeqAt.shaped
    rw [Bool.and_eq_true]
    exact ⟨by rw [PyData.canLay0]; exact l, decide_eq_true (by simp only [PyData.depth]; omega)⟩
theorem verOf_mem {S : List Str} : ∀ {rs : Rw} {v : Int}, verOf S rs = some v → ∃ r ∈ rs, r.2 = v
  | [], _, h => by cases h
  | (f, u) :: rs, v, h => by
    unfold verOf at h
    split at h
    · cases h; exact ⟨(f, u), List.mem_cons_self, rfl⟩
    · obtain ⟨r, hr, e⟩ := verOf_mem h
      exact ⟨r, List.mem_cons_of_mem _ hr, e⟩
theorem view_mem {is : Its} {S : List Str} {p : Str × Int} (h : p ∈ viewL is S) : ∃ i ∈ is, i.1 = p.1 ∧ verOf S i.2 = some p.2 := by
  unfold viewL at h
  obtain ⟨i, hi, e⟩ := List.mem_filterMap.mp h
  obtain ⟨v, ev, rfl⟩ := Option.map_eq_some_iff.mp e
  exact ⟨i, hi, rfl, ev⟩
theorem lay_int {v : Int} (a : 0 ≤ v) (b : v ≤ 99) : PyData.canLay0 (.int v) = true := by
  have : ∀ n : Fin 100, PyData.canLay0 (.int ((n : Nat) : Int)) = true := by decide +kernel
  obtain ⟨n, rfl⟩ := Int.eq_ofNat_of_zero_le a
  exact this ⟨n, by omega⟩
theorem OkI.view {N : List Str} {is : Its} (h : OkI N is) (S : List Str) : okP (viewL is S) := fun p hp => by
  obtain ⟨i, hi, e, ev⟩ := view_mem hp
  obtain ⟨r, hr, er⟩ := verOf_mem ev
  obtain ⟨_, rr⟩ := h.rows i hi
  obtain ⟨_, _, r0, r1⟩ := rr r hr
  exact ⟨by rw [← e]; exact (h.nam i hi).2, by rw [← er]; exact lay_int r0 r1⟩
theorem view_len (is : Its) (S : List Str) : (viewL is S).length ≤ is.length := List.length_filterMap_le _ _
/-- what is lost -/
def goneL (a b : List (Str × Int)) : List (Str × Int) := a.filter fun p => !decide (p ∈ b)
theorem mem_goneL {a b : List (Str × Int)} {p : Str × Int} : p ∈ goneL a b ↔ p ∈ a ∧ p ∉ b := by
  unfold goneL
  rw [List.mem_filter, Bool.not_eq_true', decide_eq_false_iff_not]
theorem okP_gone {a b : List (Str × Int)} (h : okP a) : okP (goneL a b) := fun p hp => h p (mem_goneL.mp hp).1
theorem pairs_inj : ∀ {a b : List (Str × Int)}, a.map prD = b.map prD → a = b
  | [], [], _ => rfl
  | [], _ :: _, h => by cases h
  | _ :: _, [], h => by cases h
  | x :: a, y :: b, h => by
    rw [List.map_cons, List.map_cons] at h
    injection h with h1 h2
    rw [prD_inj h1, pairs_inj h2]
theorem eqvAll_pairs : ∀ a b : List (Str × Int), PyData.eqvAll (a.map prD) (b.map prD) = decide (a = b)
  | [], [] => rfl
  | [], _ :: _ => rfl
  | _ :: _, [] => rfl
  | x :: a, y :: b => by
    rw [List.map_cons, List.map_cons, PyData.eqvAll, eqv_prD, eqvAll_pairs a b]
    rw [Bool.eq_iff_iff, Bool.and_eq_true, decide_eq_true_iff, decide_eq_true_iff, decide_eq_true_iff, List.cons.injEq]
theorem eqv_tupP (a b : List (Str × Int)) : PyData.eqv (.tuple (a.map prD)) (.tuple (b.map prD)) = decide (a = b) := by rw [PyData.eqv]; exact eqvAll_pairs a b
end L2.Pu

set_option Elab.async false
set_option linter.all false
set_option maxRecDepth 100000
set_option maxHeartbeats 4000000
/-! ## {elt for target in iter if ..}, whatever is told of the set -/
namespace L2.Fu
open PySem PySem.Spec PyProof.Rows
section
variable {X : Cx} {α : Type}
def tScG (mk : Addr → α → HO) (emp : α) (fits : α → V → Prop) (put : α → V → α) (wi : TI) (g : TG) (tt : TT) (te : TE) (vs : List Nat) : TE := fun σ H Q => wi σ H fun J H1 => ∀ D, H1 D = none → ∃ W : Nat → Nat → Hp → Prop, (∃ m, W 0 m (upd H1 D (mk D emp))) ∧ ∀ i m H, W i m H →
  (J.stop i H ∧ Q (.ref D) H) ∨ (J.go i H ∧ ∃ Nx : Hp → Prop, (∀ H', Nx H' → ∃ m', m' < m ∧ W (i + 1) m' H') ∧ ∀ x H', J.yld i H x H' → g x (wipe σ vs) H' fun σ2 H2 => wipe σ2 vs = wipe σ vs ∧ tt σ2 H2 fun b H3 =>
    if b = true then te σ2 H3 fun y H4 => ∃ l : α, fits l y ∧ H4 D = some (mk D l) ∧ Nx (upd H4 D (mk D (put l y))) else Nx H3)
theorem pe_scG {mk : Addr → α → HO} {emp : α} {fits : α → V → Prop} {put : α → V → α} {elt tg iter : Expr} {ifs : List Expr} {scope : Scope} {own : List (Str × Nat)} {pos : Pos} {wi : TI} {g : TG} {tt : TT} {te : TE}
    (hnew : ∀ (H : Hp) (h : Heap), ObjOk X.prog X.w H (h.push { cls := .type "set", dict := none, data := .set #[] 0 (.fresh 0 0 (!X.w.params.followText "set-order")) }) h.objs.size (mk h.objs.size emp))
    (hadd : ∀ (Y : Cx) (pins : List (Addr × Obj)) (σ : St) (H : Hp) (s : Shared) (a : Addr) (l : α) (y : V) (u : Value) (A : Around) (E : Value → Shared → Prop) (Q : Value → Shared → Prop), Y.prog = X.prog → Y.w = X.w → Inv Y pins σ H s → RelV y u → fits l y → H a = some (mk a l) →
      (∀ s', Inv Y pins σ (upd H a (mk a (put l y))) s' → Q .none s') → wpAny (model Y.prog Y.w) A (call (.builtin "set.add") [.ref a, u]) Q E s)
    (hc : X.calm = true) (hN : X.N.Nodup) (hi : PI X tg iter wi) (ok : BlkOk X.N X.env.scope scope own)
    (hg : ∀ (s : Shared) (H : Hp) (C : Addr) (cl : List (Str × Addr)) (fp : List Addr), PG (X.blk s H scope (compEnvC scope cl C X.env) fp) tg g) (ht : ∀ (s : Shared) (H : Hp) (C : Addr) (cl : List (Str × Addr)) (fp : List Addr), PTs (X.blk s H scope (compEnvC scope cl C X.env) fp) ifs tt)
    (he : ∀ (s : Shared) (H : Hp) (C : Addr) (cl : List (Str × Addr)) (fp : List Addr), PE (X.blk s H scope (compEnvC scope cl C X.env) fp) elt te) (hs : ∀ x, foldedSetIterable iter X.env x = pure x := by intro _; rfl) :
    PE X (.SetComp elt [⟨tg, iter, ifs, 0⟩] scope pos) (tScG mk emp fits put wi g tt te (own.map (·.2))) := by
  refine ⟨fun pins s σ H Q I h => ?_⟩
  rw [PpSet.eval_SetComp]
  have cells : ∀ y ∈ scope.names, y.2 = .free → ∃ c, X.env.cells.lookup y.1 = some c := by
    intro y hy e
    exact (ok.free y hy e).elim (fun k => I.ok.has _ (.inl k)) fun k => I.ok.has _ (.inr k)
  refine wpAny_comprehension_free rfl hs (closure_ok cells) ok.kind (fun y hy e => by rw [ok.uniq y hy, e]) (thn (hi.run pins s σ H _ I h) fun xv s1 hx => thn hx fun itv s2 h2 => ?_)
  obtain ⟨it, fp, tn, J, G, rfl, I2, T, st2, f2, q⟩ := h2
  refine PpSet.newSet_ok (newEnv_comp ?_)
  -- the empty set is laid at D, then the block's own frame behind it
  have keep2 : ∀ b o, s2.heap.get? b = some o → (s2.heap.push { cls := .type "set", dict := none, data := .set #[] 0 (.fresh 0 0 (!X.w.params.followText "set-order")) }).get? b = some o := fun b o e => Heap.get?_push_of_some _ e
  have freeD : G s2.heap.objs.size = none := I2.hok.fresh (Nat.le_refl _)
  have I3 := I2.laid (t' := s2.toks) keep2 (Nat.le_refl _) (hnew (upd G s2.heap.objs.size (mk s2.heap.objs.size emp)) s2.heap)
  obtain ⟨W, ⟨m0, w0⟩, turn⟩ := q s2.heap.objs.size freeD
  have low : ∀ b ∈ fp, b < s2.heap.objs.size := fun b hb => by
    obtain ⟨o, e, _⟩ := T.obj _ _ st2 b hb
    exact Heap.lt_size e
  have f3 : ∀ b ∈ fp, FpOk X pins (upd G s2.heap.objs.size (mk s2.heap.objs.size emp)) b := fun b hb => by
    obtain ⟨z, zz⟩ := f2 b hb
    exact ⟨by rw [upd_ne (Nat.ne_of_lt (low b hb))]; exact z, zz⟩
  have st3 := T.keep _ _ _ st2 fun b _ o e => keep2 b o e
  generalize s2.heap.objs.size = D at I3 w0 turn f3 ⊢
  have low3 : ∀ b ∈ fp, b < (s2.heap.push { cls := .type "set", dict := none, data := .set #[] 0 (.fresh 0 0 (!X.w.params.followText "set-order")) }).objs.size := fun b hb => by
    rw [Heap.size_push]
    exact Nat.lt_succ_of_lt (low b hb)
  generalize hs3 : ({ s2 with heap := s2.heap.push { cls := .type "set", dict := none, data := .set #[] 0 (.fresh 0 0 (!X.w.params.followText "set-order")) } } : Shared) = s3 at I3
  have e3 : s3.heap = s2.heap.push { cls := .type "set", dict := none, data := .set #[] 0 (.fresh 0 0 (!X.w.params.followText "set-order")) } := by rw [← hs3]
  rw [← e3] at low3 st3
  generalize upd G D (mk D emp) = G3 at I3 w0 f3
  have I4 := block_start I3 ok hN fun b hb => ⟨f3 b hb, low3 b hb⟩
  show codeAny _ _ (.compStart _ 0 (.ref it) (.ref D) (compEnvC scope (cellsFrom (s3.heap.objs.size + 1) scope.names (cloFrom X.env.cells scope.names [])) s3.heap.objs.size X.env)) (compPost (model X.prog X.w) X.A X.xe none _ (.ref D) s3.heap.objs.size) { s3 with heap := pushCells (s3.heap.push { cls := .type "dict", data := .dict #[] }) scope.names }
  have pg := hg s3 G3 s3.heap.objs.size (cellsFrom (s3.heap.objs.size + 1) scope.names (cloFrom X.env.cells scope.names [])) fp
  have pt := ht s3 G3 s3.heap.objs.size (cellsFrom (s3.heap.objs.size + 1) scope.names (cloFrom X.env.cells scope.names [])) fp
  have pe := he s3 G3 s3.heap.objs.size (cellsFrom (s3.heap.objs.size + 1) scope.names (cloFrom X.env.cells scope.names [])) fp
  have hL : (compEnvC scope (cellsFrom (s3.heap.objs.size + 1) scope.names (cloFrom X.env.cells scope.names [])) s3.heap.objs.size X.env).locals = s3.heap.objs.size := rfl
  generalize compEnvC scope (cellsFrom (s3.heap.objs.size + 1) scope.names (cloFrom X.env.cells scope.names [])) s3.heap.objs.size X.env = ce at I4 pg pt pe hL ⊢
  have st4 : tn 0 ({ s3 with heap := pushCells (s3.heap.push { cls := .type "dict", data := .dict #[] }) scope.names } : Shared).heap := T.keep _ _ _ st3 fun b _ o e => pushCells_keeps _ _ _ _ (Heap.get?_push_of_some _ e)
  generalize ({ s3 with heap := pushCells (s3.heap.push { cls := .type "dict", data := .dict #[] }) scope.names } : Shared) = s4 at I4 st4 ⊢
  have own_fp : ∀ {σ' : St} {H' : Hp} {s' : Shared}, Inv (X.blk s3 G3 scope ce fp) [] σ' H' s' → (∀ b ∈ fp, H' b = none) → ∀ b ∈ fp, FpOk (X.blk s3 G3 scope ce fp) [] H' b := by
    intro σ' H' s' I' hn b hb
    exact ⟨hn b hb, (I'.ok.exf b hb).1, I'.ok.exfs b hb, .inl hb, fun x c e => (I'.ok.exf b hb).2 x c e, fun p hp => nomatch hp⟩
  have loop : codeAny (model X.prog X.w) X.A (.compLoop (.SetComp elt [⟨tg, iter, ifs, 0⟩] scope pos) 0 (.ref it) (.ref D) ce) (compPost (model X.prog X.w) X.A X.xe none (EP X pins σ Q) (.ref D) s3.heap.objs.size) s4 := by
    refine PpSet.compLoopS_any (fun n t => ∃ (i : Nat) (Hi : Hp), Inv (X.blk s3 G3 scope ce fp) [] (wipe σ (own.map (·.2))) Hi t ∧ tn i t.heap ∧ (∀ b ∈ fp, Hi b = none) ∧ W i n Hi) ?_ m0 ⟨0, G3, I4, st4, fun b hb => (f3 b hb).1, w0⟩
    rintro n t ⟨i, Hi, It, stt, nt, wt⟩
    rcases turn i n Hi wt with ⟨stop, done⟩ | ⟨go, Nx, hNx, step⟩
    · refine thnF (T.done (X.blk s3 G3 scope ce fp) rfl rfl rfl hc i [] t _ Hi (fun _ _ => False) It (own_fp It nt) stt stop) fun r t6 hr => ?_
      obtain ⟨rfl, I6⟩ := hr
      have back : Inv X pins σ Hi t6 := I3.call' (ch := fp) I6.os I6.base I6.hok I6.bare fun b hb => by
        obtain ⟨_, z1, _, z3, z4, z5⟩ := f3 b hb
        exact ⟨z3, z1, z4, z5⟩
      obtain ⟨m, ns, _⟩ := I6.loc
      have ns : t6.heap.Ns ce.locals m := ns
      have free : Hi ce.locals = none := I6.free
      rw [hL] at ns free
      obtain ⟨u0, u1, u2, u3, u4, u5⟩ := I3.fpOk (Nat.le_refl _) free
      exact ⟨m, ns, fun h'' sb => ⟨.ref D, Hi, back.turned (t' := t6.toks) (fun b o hb e => (sb.2 b hb).trans e) u0 u1 u3 u4 u5, rfl, done⟩⟩
    · refine thnF (T.item (X.blk s3 G3 scope ce fp) rfl rfl rfl hc i [] t _ Hi (fun _ _ => False) It (own_fp It nt) stt go) fun r t6 hr => ?_
      obtain ⟨u, rfl, h6⟩ := hr
      refine thnF h6 fun _ t7 hr => ?_
      obtain ⟨x, H7, I7, r7, y7, st7, n7⟩ := hr
      have held := I7.pinned (own_fp I7 n7) (T.obj _ _ st7)
      -- a turn's end: what the iterator leans on stands
      have fin : ∀ (t' : Shared) (σ' : St) (H' : Hp), Inv (X.blk s3 G3 scope ce fp) ([] ++ pinsAt fp t7.heap) σ' H' t' → wipe σ' (own.map (·.2)) = wipe σ (own.map (·.2)) → Nx H' →
          ∃ m, m < n ∧ ∃ (i : Nat) (Hi : Hp), Inv (X.blk s3 G3 scope ce fp) [] (wipe σ (own.map (·.2))) Hi t' ∧ tn i t'.heap ∧ (∀ b ∈ fp, Hi b = none) ∧ W i m Hi := by
        intro t' σ' H' I' hw nx
        obtain ⟨m, lt, w'⟩ := hNx H' nx
        have pin : ∀ b ∈ fp, ∀ o, t7.heap.get? b = some o → t'.heap.get? b = some o ∧ H' b = none := by
          intro b hb o e
          have z := I'.pin (b, o) (List.mem_append_right _ (List.mem_append_right _ (mem_pinsAt hb e)))
          exact ⟨z.1, z.2.1⟩
        have ll : (wipe σ (own.map (·.2))).length = σ'.length := by rw [← hw, wipe_length]
        refine ⟨m, lt, i + 1, H', (I'.unpinned (pins := [])).weak ll (fun j v e => ?_), T.keep _ _ _ st7 fun b hb o e => (pin b hb o e).1, fun b hb => ?_, w'⟩
        · rw [← hw] at e
          exact (wipe_some e).1
        · obtain ⟨o, e, _⟩ := T.obj _ _ st7 b hb
          exact (pin b hb o e).2
      refine thnF (pg.run _ t7 _ H7 x u _ held r7 (step x H7 y7)) fun _ t8 hr => ?_
      obtain ⟨σ8, H8, I8, hw8, q8⟩ := hr
      refine thnF (pt.run _ t8 σ8 H8 _ I8 q8) fun b t9 hr => ?_
      obtain ⟨H9, I9, q9⟩ := hr
      match b, q9 with
      | false, q9 => exact fin t9 σ8 H9 I9 hw8 q9
      | true, q9 =>
        refine thnF (pe.run _ t9 σ8 H9 _ I9 q9) fun z t10 hr => ?_
        obtain ⟨yv, H10, I10, r10, l, room, hD, nx⟩ := hr
        exact hadd (X.blk s3 G3 scope ce fp) _ _ _ _ _ _ _ _ _ _ _ rfl rfl I10 r10 room hD fun t11 I11 => fin t11 σ8 _ I11 hw8 nx
  exact PpSet.codeAny_compStart_set loop (T.self X.A 0 _ _ _ st4 loop)
end
/-- ints: those of L, each once -/
def putI (L : List Int) : V → List Int
  | .int k => if k ∈ L then L else k :: L
  | _ => L
def mkI (w : World) (a : Addr) (L : List Int) : HO := SetO w a (fun j => decide (j ∈ L)) L.length
def fitsI (L : List Int) (y : V) : Prop := (∃ k, y = .int k) ∧ L.length + 1 < scanBound
theorem mkI_put {w : World} {a : Addr} {L : List Int} {k : Int} : SetO w a (fun j => decide (j ∈ L) || decide (j = k)) (if decide (k ∈ L) = true then L.length else L.length + 1) = mkI w a (putI L (.int k)) := by
  have e : putI L (.int k) = if k ∈ L then L else k :: L := rfl
  unfold mkI
  rw [e]
  by_cases h : k ∈ L
  · rw [if_pos h, if_pos (decide_eq_true h)]
    congr 1
    funext j
    rw [Bool.eq_iff_iff, Bool.or_eq_true, decide_eq_true_iff, decide_eq_true_iff]
    exact ⟨fun z => z.elim id fun e => e ▸ h, .inl⟩
  · rw [if_neg h, if_neg (by rw [decide_eq_true_iff]; exact h)]
    congr 1
    funext j
    rw [Bool.eq_iff_iff, Bool.or_eq_true, decide_eq_true_iff, decide_eq_true_iff, decide_eq_true_iff, List.mem_cons]
    exact or_comm
section
variable {X : Cx}
theorem pe_scI {elt tg iter : Expr} {ifs : List Expr} {scope : Scope} {own : List (Str × Nat)} {pos : Pos} {wi : TI} {g : TG} {tt : TT} {te : TE} (hc : X.calm = true) (hN : X.N.Nodup) (hi : PI X tg iter wi) (ok : BlkOk X.N X.env.scope scope own)
    (hg : ∀ (s : Shared) (H : Hp) (C : Addr) (cl : List (Str × Addr)) (fp : List Addr), PG (X.blk s H scope (compEnvC scope cl C X.env) fp) tg g) (ht : ∀ (s : Shared) (H : Hp) (C : Addr) (cl : List (Str × Addr)) (fp : List Addr), PTs (X.blk s H scope (compEnvC scope cl C X.env) fp) ifs tt)
    (he : ∀ (s : Shared) (H : Hp) (C : Addr) (cl : List (Str × Addr)) (fp : List Addr), PE (X.blk s H scope (compEnvC scope cl C X.env) fp) elt te) (hs : ∀ x, foldedSetIterable iter X.env x = pure x := by intro _; rfl) :
    PE X (.SetComp elt [⟨tg, iter, ifs, 0⟩] scope pos) (tScG (mkI X.w) [] fitsI putI wi g tt te (own.map (·.2))) := by
  refine pe_scG (fun H h => ?_) (fun Y pins σ H s a l y u A E Q hp hw I r fi ha q => ?_) hc hN hi ok hg ht he hs
  · exact setO_new (setR_fresh X.w)
  · obtain ⟨⟨k, rfl⟩, room⟩ := fi
    obtain ⟨tk, rfl⟩ := (show ∃ t, u = Value.int k t from r)
    rw [← hw] at ha q
    have R := setO_get I ha
    refine setR_add R room fun h' sb new => ?_
    have he : ∃ u, h'.get? a = some u := by
      have ⟨o, _, _, _, ho, _⟩ := new
      exact ⟨o, ho⟩
    refine q _ ?_
    rw [← mkI_put]
    exact I.write (e := a) (t' := s.toks + 1) (by rw [ha]; trivial) (.inl rfl) (fun b u hb hu => (sb.2 b hb).trans hu) he (setO_new new)
end
end L2.Fu

set_option Elab.async false
set_option linter.all false
set_option maxRecDepth 100000
set_option maxHeartbeats 4000000
/-! ## sorted({elt for target in iter if ..}), elt an int -/
namespace L2.Pu
open PySem PySem.Spec PyProof.Rows
theorem setI_nocode {w : World} {p : Addr} {L : List Int} {q : Str} : Fu.mkI w p L ≠ LamX.CodeO p q := fun e => by
  have e1 := HO.ext.inj e
  let o : Obj := { cls := .none, data := .fields #[.none, .str q 0] }
  let h : Heap := (⟨Array.replicate p o, {}⟩ : Heap).push o
  have hg : h.get? p = some o := by
    have := Heap.get?_push_size (⟨Array.replicate p o, {}⟩ : Heap) (o := o) rfl
    simpa [Array.size_replicate] using this
  have : SetR w h p (fun j => decide (j ∈ L)) L.length := by
    have z := congrFun e1 h
    rw [z]
    exact ⟨o, _, 0, hg, rfl, rfl⟩
  obtain ⟨o2, es, n, t, hd, _, hdt, _⟩ := this
  rw [hg] at hd
  have e2 := Option.some.inj hd
  rw [← e2] at hdt
  cases hdt
/-- the element is an int -/
def qInt (te : QE) : QE := fun ρ κ => te ρ fun y ρ1 => (∃ k : Int, y = .int k) ∧ κ y ρ1
abbrev QSI := Ro → (List Int → Ro → Prop) → Prop
def liftSI (T : PK) (q : QSI) : TE := fun σ H Q => ∃ F ρ C, Rep T F ρ C σ H ∧ ∃ κ, q ρ κ ∧ ∀ L ρ' p C' H', κ L ρ' → L.Nodup → Same C C' → Rep T F ρ' C' σ H' → H' p = some (Fu.mkI T.w p L) → Q (.ref p) H'
def qSc (qi : QI) (g : QG) (tt : QT) (te : QE) (vs : List Nat) : QSI := fun ρ κ => qi ρ fun ds ρ1 => ds.length < 4000 ∧ lcL g tt (qInt te) vs (fun acc ρ2 => ∃ is : List Int, acc = is.map PyData.int ∧ ∀ L : List Int, (∀ k, k ∈ L ↔ k ∈ is) → κ L (backR ρ1 ρ2 vs)) ds [] (wipeR ρ1 vs)
theorem int_mem {is : List Int} {k : Int} : PyData.int k ∈ is.map PyData.int ↔ k ∈ is := by
  rw [List.mem_map]
  exact ⟨fun ⟨a, h, e⟩ => by injection e with e; exact e ▸ h, fun h => ⟨k, h, rfl⟩⟩
theorem sc_imp {T : PK} {qi : QI} {g : QG} {tt : QT} {te : QE} {vs : List Nat} : ∀ σ H Q, liftSI T (qSc qi g tt te vs) σ H Q → Fu.tScG (Fu.mkI T.w) [] Fu.fitsI Fu.putI (liftI T qi) (liftGv T vs g) (liftT T tt) (liftE T te) vs σ H Q := by
  rintro σ H Q ⟨F, ρ, C, R, κ, k, z⟩
  refine ⟨F, ρ, C, R, _, k, fun ds ρ1 C1 H1 J k1 s1 R1 wk D hD => ?_⟩
  obtain ⟨l4, k1⟩ := k1
  refine ⟨fun i m H => m + i = ds.length ∧ ∃ ρ2 C2 L acc, Same C1 C2 ∧ Rep T F ρ2 C2 (wipe σ vs) H ∧ H D = some (Fu.mkI T.w D L) ∧ L.Nodup ∧ (∀ k, k ∈ L ↔ PyData.int k ∈ acc) ∧ Fresh F ρ2 C2 (wipe σ vs) D ∧ L.length ≤ i ∧ lcL g tt (qInt te) vs (fun acc ρ2 => ∃ is : List Int, acc = is.map PyData.int ∧ ∀ L : List Int, (∀ k, k ∈ L ↔ k ∈ is) → κ L (backR ρ1 ρ2 vs)) (ds.drop i) acc ρ2,
    ⟨ds.length, rfl, wipeR ρ1 vs, C1, [], [], same_refl _, (R1.layH hD).wipe vs, upd_same, List.nodup_nil, (fun k => ⟨(fun z => nomatch z), (fun z => nomatch z)⟩), (R1.new_fresh hD).mono_wipe, Nat.le_refl _, k1⟩, ?_⟩
  have hr := R1.ref_ne hD
  have c0 := R1.c0_none (sub_none R1.sub hD)
  have few := wk.few
  have wiped : ∀ us : List Nat, (∀ u ∈ us, u ∈ vs) → wipe (wipe σ us) vs = wipe σ vs := by
    intro us
    induction us with
    | nil => intro _; rfl
    | cons u us ih =>
      intro h
      show wipe ((wipe σ us).set u none) vs = _
      rw [wipe_set (h u List.mem_cons_self), ih fun w hw => h w (List.mem_cons_of_mem _ hw)]
  rintro i m H2 ⟨hm, ρ2, C2, L, acc, s2, R2, e2, nd2, mem2, f2, l2, k2⟩
  by_cases lt : i < ds.length
  · have hd : ds.drop i = ds[i] :: ds.drop (i + 1) := List.drop_eq_getElem_cons lt
    rw [hd] at k2
    obtain ⟨N, hN, k2⟩ := k2
    refine .inr ⟨wk.go i C2 H2 s2 R2.sub lt, fun H' => ∃ ρ3 C3 L acc, Same C1 C3 ∧ Rep T F ρ3 C3 (wipe σ vs) H' ∧ H' D = some (Fu.mkI T.w D L) ∧ L.Nodup ∧ (∀ k, k ∈ L ↔ PyData.int k ∈ acc) ∧ Fresh F ρ3 C3 (wipe σ vs) D ∧ L.length ≤ i + 1 ∧ N acc ρ3, ?_, ?_⟩
    · rintro H' ⟨ρ3, C3, L3, acc3, s3, R3, e3, nd3, mem3, f3, l3, n3⟩
      exact ⟨m - 1, by omega, by omega, ρ3, C3, L3, acc3, s3, R3, e3, nd3, mem3, f3, l3, hN _ _ n3⟩
    · intro x H3 hy
      have Rg := R2.guard f2 e2
      obtain ⟨d, C3, hd1, s3, R3, hd2⟩ := wk.yld i _ ρ2 C2 _ H2 x H3 Rg s2 hy lt
      have : ds[i] = d := by rw [List.getElem?_eq_getElem lt] at hd1; exact Option.some.inj hd1
      rw [this] at k2
      have nt : ∀ xs, Fu.mkI T.w D L ≠ .tup xs := fun xs e => nomatch e
      have no : NoTb (Fu.mkI T.w D L) := fun xs e => nomatch e
      refine ⟨_, ρ2, C3, d, R3, hd2, _, k2, fun ρ4 C4 σ4 H4 k4 s4 R4 w4 => ⟨w4.trans (wiped vs fun _ h => h), _, ρ4, C4, R4, _, k4, fun b ρ5 C5 H5 k5 s5 R5 => ?_⟩⟩
      have w4' : wipe σ4 vs = wipe σ vs := w4.trans (wiped vs fun _ h => h)
      have s15 := same_trans s2 (same_trans s3 (same_trans s4 s5))
      cases b with
      | false =>
        obtain ⟨R6, e6, f6⟩ := R5.unguard nt no f2.start c0 hr
        exact ⟨wipeR ρ5 vs, C5, L, acc, s15, by rw [← w4']; exact R6.wipe vs, e6, nd2, mem2, by rw [← w4']; exact f6.mono_wipe, Nat.le_succ_of_le l2, k5⟩
      | true =>
        refine ⟨_, ρ5, C5, R5, _, k5, fun y ρ6 v C6 H6 k6 s6 R6 d6 => ?_⟩
        obtain ⟨⟨j, rfl⟩, k6⟩ := k6
        obtain rfl : v = V.int j := by cases d6; rfl
        obtain ⟨R7, e7, f7⟩ := R6.unguard nt no f2.start c0 hr
        have ep : Fu.putI L (.int j) = if j ∈ L then L else j :: L := rfl
        have nc : (∀ ps, H6 D ≠ some (.tbl ps)) ∧ ∀ q, H6 D ≠ some (LamX.CodeO D q) := ⟨fun _ z => (by rw [e7] at z; exact no _ (Option.some.inj z)), fun _ z => (by rw [e7] at z; exact setI_nocode (Option.some.inj z))⟩
        refine ⟨L, ⟨⟨j, rfl⟩, by unfold scanBound; omega⟩, e7, wipeR ρ6 vs, C6, Fu.putI L (.int j), acc ++ [.int j], same_trans s15 s6, ?_, upd_same, ?_, fun k => ?_, by rw [← w4']; exact f7.mono_wipe, ?_, k6⟩
        · rw [← w4']; exact (R7.writeF f7 hr nc (Fu.mkI T.w D (Fu.putI L (.int j))) (fun xs e => nomatch e)).wipe vs
        · rw [ep]; split
          · exact nd2
          · exact List.nodup_cons.mpr ⟨by assumption, nd2⟩
        · rw [ep, List.mem_append, List.mem_singleton, ← mem2]
          split
          · rename_i h; exact ⟨.inl, fun z => z.elim id fun z => by injection z with z; exact z ▸ h⟩
          · rw [List.mem_cons]; exact ⟨fun z => z.elim (fun z => .inr (by rw [z])) .inl, fun z => z.elim .inr fun z => .inl (by injection z)⟩
        · rw [ep]; split
          · omega
          · rw [List.length_cons]; omega
  · refine .inl ⟨wk.stop i C2 H2 s2 R2.sub (by omega), ?_⟩
    rw [List.drop_eq_nil_of_le (by omega)] at k2
    obtain ⟨is, ea, k2⟩ := k2
    have Rb := Rep.back R1 s2 R2
    exact z L _ _ _ _ (k2 L fun k => by rw [mem2, ea, int_mem]) nd2 (same_trans s1 s2) Rb e2
section
variable {X : Cx} {τ : Tb} {pos p spos : Pos}
/-- sorted of it: an ascending list of just these ints -/
def qfSortSc (qi : QI) (g : QG) (tt : QT) (te : QE) (vs : List Nat) : QF := fun ρ κ => qSc qi g tt te vs ρ fun L ρ1 => (L.Nodup → L.length < 64) ∧ ∀ ns : List Int, ns.Pairwise (· < ·) → (∀ k, k ∈ ns ↔ k ∈ L) → κ (.lst (ns.map PyData.int)) ρ1
theorem da_ints {C : Hp} : ∀ ns : List Int, DaAll w C (ns.map V.int) (ns.map PyData.int)
  | [] => .nil
  | n :: ns => .cons (.int n) (da_ints ns)
theorem qf_sortSc {elt tg iter : Expr} {ifs : List Expr} {scope : Scope} {own : List (Str × Nat)} {qi : QI} {g : QG} {tt : QT} {te : QE} (hc : X.calm = true) (hgl : Gl X "sorted") (hm : X.mg "sorted" = none) (hN : X.N.Nodup) (hi : PQI τ X tg iter qi) (ok : BlkOk X.N X.env.scope scope own)
    (hg : ∀ (s : Shared) (H : Hp) (C : Addr) (cl : List (Str × Addr)) (fp : List Addr), PQGv τ (X.blk s H scope (compEnvC scope cl C X.env) fp) (own.map (·.2)) tg g) (ht : ∀ (s : Shared) (H : Hp) (C : Addr) (cl : List (Str × Addr)) (fp : List Addr), PQTs τ (X.blk s H scope (compEnvC scope cl C X.env) fp) ifs tt)
    (he : ∀ (s : Shared) (H : Hp) (C : Addr) (cl : List (Str × Addr)) (fp : List Addr), PQ τ (X.blk s H scope (compEnvC scope cl C X.env) fp) elt te) (hs : ∀ x, foldedSetIterable iter X.env x = pure x := by intro _; rfl)
    (hst : starEach [Expr.SetComp elt [⟨tg, iter, ifs, 0⟩] scope spos] X.env = (false, eval (.SetComp elt [⟨tg, iter, ifs, 0⟩] scope spos) X.env) :: starEach [] X.env := by rfl) (hpl : (backTo pos (starEach [] X.env)).any (·.1) = false := by rfl) :
    PQF τ X (.Call (.Name "sorted" p) [.SetComp elt [⟨tg, iter, ifs, 0⟩] scope spos] [] pos) (qfSortSc qi g tt te (own.map (·.2))) := by
  refine pe_imp _ (pe_callB (cr_sortedSet hc) hgl hm (by decide +kernel) (pa_cons (Fu.pe_scI (wi := liftI (X.pk τ) qi) (g := liftGv (X.pk τ) (own.map (·.2)) g) (tt := liftT (X.pk τ) tt) (te := liftE (X.pk τ) te) hc hN hi ok hg ht he hs) pa_nil hst) (by decide) (by decide) hst hpl) ?_
  rintro σ H Q ⟨F, ρ, C, R, κ, k, z⟩
  refine sc_imp (T := X.pk τ) σ H (fun x H1 => rSortedSet X.w [x] H1 Q) ⟨F, ρ, C, R, _, k, fun L ρ1 q C1 H1 k1 nd s1 R1 e1 => ?_⟩
  refine ⟨q, _, _, rfl, e1, k1.1 nd, fun ns p' asc mem len np => ?_⟩
  exact z _ _ _ _ _ (k1.2 ns asc fun j => by rw [mem]; exact decide_eq_true_iff) s1 (R1.layH np) ⟨_, upd_same, da_ints ns⟩ (R1.new_fresh np) (R1.ref_ne np)
end
section
variable {X : Cx} {τ : Tb} {pos p : Pos} {e : Expr} {qa : QE}
/-- a slice of a list, as an own list -/
def qfSl (a : QE) (ql qh : QO) : QF := fun ρ κ => a ρ fun d ρ1 => ql ρ1 fun l ρ2 => qh ρ2 fun u ρ3 => match d with
  | .list ds => κ (.lst (cutD ds l u)) ρ3
  | _ => False
theorem qf_slice {lo hi : Option Expr} {ql qh : QO} {p2 : Pos} (h : PQ τ X e qa) (hl : PQO τ X lo ql) (hh : PQO τ X hi qh) : PQF τ X (.Subscript e (.Slice lo hi none p2) pos) (qfSl qa ql qh) := by
  refine pe_imp _ (pe_slice (SlR.or sl_list sl_tupF) h hl hh) ?_
  rintro σ H Q ⟨F, ρ, C, R, κ, k, z⟩
  refine ⟨F, ρ, C, R, _, k, fun d ρ1 v C1 H1 k1 s1 R1 d1 => ⟨F, ρ1, C1, R1, _, k1, fun l ρ2 C2 H2 k2 s2 R2 => ⟨F, ρ2, C2, R2, _, k2, fun u ρ3 C3 H3 k3 s3 R3 => ?_⟩⟩⟩
  have s13 := same_trans s1 (same_trans s2 s3)
  have d3 := d1.mono (same_trans s2 s3)
  cases d3 with
  | lst ea _ ha =>
    refine .inl ⟨_, _, rfl, SqL.of (R3.sub _ _ ea), fun q nq => ?_⟩
    exact z _ _ _ _ _ k3 s13 (R3.layH nq) ⟨_, upd_same, cut_all ha⟩ (R3.new_fresh nq) (R3.ref_ne nq)
  | _ => exact False.elim k3
/-- int(b) -/
def intBD : PyData → (PyData → Prop) → Prop := fun d P => match d with
  | .bool b => P (.int (if b then 1 else 0))
  | _ => False
theorem qe_intB (hg : Gl X "int") (hm : X.mg "int" = none) (h : PQ τ X e qa) (he : starEach [e] X.env = (false, eval e X.env) :: starEach [] X.env := by rfl) (hpl : (backTo pos (starEach [] X.env)).any (·.1) = false := by rfl) : PQ τ X (.Call (.Name "int" p) [e] [] pos) (qUn intBD qa) := by
  refine pe_imp _ (pe_callTy call_int1 hg hm (by decide +kernel) (pa_cons h pa_nil he) (by decide) (by decide) he hpl) ?_
  rintro σ H Q ⟨F, ρ, C, R, κ, k, z⟩
  refine ⟨F, ρ, C, R, _, k, fun d ρ1 v C1 H1 k1 s1 R1 d1 => ?_⟩
  cases d1 with
  | bl b => exact .inr ⟨b, rfl, z _ _ _ _ _ k1 s1 R1 (.int _)⟩
  | _ => exact False.elim k1
end
end L2.Pu

set_option Elab.async false
set_option linter.all false
set_option maxRecDepth 100000
set_option maxHeartbeats 4000000
/-! ## Dicts whose keys are tuples of texts: d[k] -/
namespace L2.Pu
open PySem PySem.Spec PyProof.Rows
theorem tupS_inj0 : ∀ {a b : List Str}, PyData.tuple (a.map PyData.str) = PyData.tuple (b.map PyData.str) → a = b := by
  intro a b h
  exact tupS_inj (show tupS a = tupS b from h)
abbrev keysOf (r : List Str) : List Key := r.map Sum.inr
theorem keysOf_inj {a b : List Str} (h : keysOf a = keysOf b) : a = b := by
  have : (keysOf a).map (fun k : Key => match k with | .inr x => x | .inl _ => "") = (keysOf b).map (fun k : Key => match k with | .inr x => x | .inl _ => "") := by rw [h]
  rw [List.map_map, List.map_map] at this
  have i : ∀ l : List Str, l.map ((fun k : Key => match k with | .inr x => x | .inl _ => ("" : Str)) ∘ Sum.inr) = l := fun l => by
    induction l with
    | nil => rfl
    | cons x l ih => rw [List.map_cons, ih]; rfl
  rwa [i, i] at this
theorem find_nodup {κ β : Type} [DecidableEq κ] : ∀ {ys : List (κ × β)} {y : κ × β}, (ys.map (·.1)).Nodup → y ∈ ys → (ys.find? fun x => decide (x.1 = y.1)) = some y
  | x :: ys, y, nd, h => by
    rw [List.map_cons, List.nodup_cons] at nd
    rw [List.find?_cons]
    rcases List.mem_cons.mp h with rfl | h
    · rw [decide_eq_true rfl]
    · have : ¬ x.1 = y.1 := fun e => nd.1 (by rw [e]; exact List.mem_map.mpr ⟨y, h, rfl⟩)
      rw [decide_eq_false this]
      exact find_nodup nd.2 h
theorem nodup_map_inj {α β : Type} {f : α → β} (hf : ∀ a b, f a = f b → a = b) : ∀ {l : List α}, l.Nodup → (l.map f).Nodup
  | [], _ => List.nodup_nil
  | a :: l, h => by
    rw [List.nodup_cons] at h
    rw [List.map_cons, List.nodup_cons]
    refine ⟨fun z => ?_, nodup_map_inj hf h.2⟩
    obtain ⟨b, hb, e⟩ := List.mem_map.mp z
    exact h.1 (hf _ _ e ▸ hb)
section
variable {X : Cx} {pins : List (Addr × Obj)} {σ : St} {H : Hp} {s : Shared}
theorem key_frz (I : Inv X pins σ H s) {q : Addr} {ob : Obj} {r : List Str} (h : H q = some (.frz ob (.tup (r.map V.str)))) : (tupleKind (mixKind X.prog X.w)).is s.heap (keysOf r) q := by
  obtain ⟨_, its, rv, o, h1, h2, n, h3⟩ := (show ObjOk X.prog X.w H s.heap q (.tup (r.map V.str)) from (I.hok q _ h).2)
  refine ⟨o, its.toArray, n, h1, h2, h3, ?_⟩
  have : Vals ((keysOf r).map kV) its := by rw [List.map_map]; exact rv
  simpa using items_are this
theorem DT.of (I : Inv X pins σ H s) {a : Addr} {o : Obj} {u : HO} {zs : List (List Str × Addr × V)} (h : H a = some (.frz o u)) (t : DT X.w a o zs) (ks : ∀ z ∈ zs, KeyAt H z) :
    ∃ xs : List (List Str × Addr × Value), Paired (fun (z : List Str × Addr × V) (x : List Str × Addr × Value) => x.1 = z.1 ∧ x.2.1 = z.2.1 ∧ RelV z.2.2 x.2.2) zs xs ∧ s.heap.DictOfH (tupleKind (mixKind X.prog X.w)) a (xs.map fun x => (keysOf x.1, x.2)) := by
  obtain ⟨es, ep, xs, h1, pr, h3⟩ := t.ents
  have names : xs.map (·.1) = zs.map (·.1) := by
    clear h3 ks t
    induction pr with
    | nil => rfl
    | cons r _ ih => rw [List.map_cons, List.map_cons, ih, r.1]
  refine ⟨xs, pr, o, es, ep, (I.hok a _ h).1, t.ex, h1, by rw [h3, List.map_map]; rfl, fun y hy => ?_, ?_⟩
  · obtain ⟨x, hx, rfl⟩ := List.mem_map.mp hy
    obtain ⟨i, hi⟩ := List.getElem?_of_mem hx
    have lz : i < zs.length := by
      have := Paired.length pr
      have := (List.getElem?_eq_some_iff.mp hi).1
      omega
    obtain ⟨b, hb, e1, e2, _⟩ := paired_get pr (List.getElem?_eq_getElem lz)
    rw [hi] at hb; cases hb
    obtain ⟨ob, k1, _⟩ := ks zs[i] (List.getElem_mem lz)
    rw [← e1, ← e2] at k1
    exact key_frz I k1
  · rw [List.map_map]
    show (xs.map fun x => keysOf x.1).Nodup
    rw [show (fun x : List Str × Addr × Value => keysOf x.1) = keysOf ∘ (·.1) from rfl, ← List.map_map, names]
    exact nodup_map_inj (fun _ _ => keysOf_inj) t.nd
theorem getT_ok {A : Around} {E : Value → Shared → Prop} {Q : Value → Shared → Prop} (hu : A.units + 1 < cLine) (I : Inv X pins σ H s) {a b : Addr} {o ob : Obj} {u : HO} {zs : List (List Str × Addr × V)} {z : List Str × Addr × V} (h : H a = some (.frz o u)) (t : DT X.w a o zs) (ks : ∀ z ∈ zs, KeyAt H z)
    (hz : z ∈ zs) (hb : H b = some (.frz ob (.tup (z.1.map V.str)))) (k : ∀ v s', Inv X pins σ H s' → RelV z.2.2 v → Q v s') : wpAny (model X.prog X.w) A (getItem (.ref a) (.ref b)) Q E s := by
  obtain ⟨xs, pr, dd⟩ := t.of I h ks
  obtain ⟨i, hi⟩ := List.getElem?_of_mem hz
  obtain ⟨x, hx, e1, e2, rv⟩ := paired_get pr hi
  have nd : ((xs.map fun x => (keysOf x.1, x.2)).map (·.1)).Nodup := by obtain ⟨_, _, _, _, _, _, _, _, nd⟩ := dd; exact nd
  have at' : atKey (xs.map fun x => (keysOf x.1, x.2)) (keysOf z.1) = some x.2 := by
    unfold atKey
    have := find_nodup (y := (keysOf x.1, x.2)) nd (List.mem_map.mpr ⟨x, List.mem_of_getElem? hx, rfl⟩)
    rw [e1] at this
    rw [this]; rfl
  exact wpAny_getItem_heap (tupleKind_room_in1 hu) (key_frz I hb) dd at' (k _ _ (I.tok _) rv)
end
section
variable {X : Cx} {τ : Tb} {pos : Pos} {a b : Expr} {qa qb : QE}
def rGetT (w : World) : R2 := fun x y H Q => ∃ (p q : Addr) (o ob : Obj) (u : HO) (zs : List (List Str × Addr × V)) (z : List Str × Addr × V), x = .ref p ∧ y = .ref q ∧ H p = some (.frz o u) ∧ DT w p o zs ∧ (∀ z ∈ zs, KeyAt H z) ∧ z ∈ zs ∧ H q = some (.frz ob (.tup (z.1.map V.str))) ∧ Q z.2.2 H
theorem pe_getT {ta tb : TE} (hu : X.A.units + 1 < cLine) (ha : PE X a ta) (hb : PE X b tb) (hs : NoSl b) : PE X (.Subscript a b pos) (tOp (rGetT X.w) ta tb) := by
  refine ⟨fun pins s σ H Q I h => subD_of PySem.F.slot_dict_getitem.lookup hs (thn (ha.run pins s σ H _ I h) fun v s1 g1 => ?_)⟩
  obtain ⟨x, H1, I1, rx, g1⟩ := g1
  refine thn (hb.run pins s1 σ H1 _ I1 g1) fun v2 s2 g2 => ?_
  obtain ⟨y, H2, I2, ry, p, q, o, ob, u, zs, z, rfl, rfl, hp, dt, ks, hz, hq, k⟩ := g2
  obtain rfl : v = Value.ref p := rx
  obtain rfl : v2 = Value.ref q := ry
  obtain ⟨xs, _, dd⟩ := dt.of I2 hp ks
  exact ⟨dd.typeIs, getT_ok hu I2 hp dt ks hz hq fun v3 s3 I3 r3 => ⟨z.2.2, H2, I3, r3, k⟩⟩
/-- the data of a dict whose keys are tuples of texts -/
def dtD (rds : List (List Str × PyData)) : PyData := .dict (rds.map fun e => (.tuple (e.1.map PyData.str), e.2))
def dgetT : D2 := fun x y P => ∃ (rds : List (List Str × PyData)) (r : List Str) (d : PyData), x = dtD rds ∧ y = tupS r ∧ (r, d) ∈ rds ∧ P d
theorem dtD_inj : ∀ {a b : List (List Str × PyData)}, dtD a = dtD b → a = b := by
  intro a b h
  unfold dtD at h
  injection h with h
  induction a generalizing b with
  | nil => cases b with
    | nil => rfl
    | cons => cases h
  | cons x a ih => cases b with
    | nil => cases h
    | cons y b =>
      rw [List.map_cons, List.map_cons] at h
      injection h with h1 h2
      injection h1 with h3 h4
      have : x.1 = y.1 := tupS_inj0 h3
      rw [ih h2, Prod.ext this h4]
theorem ok_getT : OkD τ X (rGetT X.w) dgetT := by
  intro F ρ C σ H x y d e P Q R dx dy h z
  obtain ⟨rds, r, v, rfl, rfl, hm, hp⟩ := h
  generalize hd : dtD rds = dd at dx
  cases dx with
  | @dicT a o u zs rds' e dt ks hk ne ha =>
    have : rds = rds' := dtD_inj hd
    subst this
    generalize ht : tupS r = tt at dy
    cases dy with
    | @tup b ob xs ds eb nb hb =>
      unfold tupS at ht
      injection ht with ht
      subst ht
      rw [strs_of hb] at eb
      obtain ⟨i, hi⟩ := List.getElem?_of_mem hm
      have lz : i < zs.length := by
        have h1 : zs.length = rds.length := by simpa using congrArg List.length hk
        have := (List.getElem?_eq_some_iff.mp hi).1
        omega
      have kz : zs[i].1 = r := by
        have := congrArg (fun l => l[i]?) hk
        simp only [List.getElem?_map, hi, List.getElem?_eq_getElem lz, Option.map_some] at this
        exact Option.some.inj this
      have dv : Da X.w C zs[i].2.2 v := by
        obtain ⟨x', a1, a2⟩ := ha.get (i := i) (v := zs[i].2.2) (by rw [List.getElem?_map, List.getElem?_eq_getElem lz]; rfl)
        rw [List.getElem?_map, hi] at a1
        cases a1
        exact a2
      refine ⟨a, b, o, ob, u, zs, zs[i], rfl, rfl, R.sub _ _ e, dt, fun z' hz' => ?_, List.getElem_mem lz, by rw [kz]; exact R.sub _ _ eb, okq R z hp dv⟩
      obtain ⟨ob', k1, k2⟩ := ks z' hz'
      exact ⟨ob', R.sub _ _ k1, k2⟩
    | _ => cases ht
  | @dic a kvs es er ek ea =>
    exfalso
    cases rds with
    | nil => cases hm
    | cons r0 rds => cases es with
      | nil => cases hd
      | cons e0 es =>
        unfold dtD at hd
        injection hd with hd
        rw [List.map_cons, List.map_cons] at hd
        injection hd with h1 _
        injection h1 with h1 _
        obtain ⟨k0, d0⟩ := e0
        cases k0 <;> cases h1
  | _ => cases hd
theorem qe_getT (hu : X.A.units + 1 < cLine) (ha : PQ τ X a qa) (hb : PQ τ X b qb) (hs : NoSl b := by exact fun _ _ => rfl) : PQ τ X (.Subscript a b pos) (qOp dgetT qa qb) := pe_imp _ (pe_getT hu ha hb hs) (op_imp (r2 := rGetT X.w) ok_getT)
end
end L2.Pu

set_option Elab.async false
set_option linter.all false
set_option maxRecDepth 100000
set_option maxHeartbeats 4000000
/-! ## {k: v for target in iter if ..}, whatever is told of the dict -/
namespace L2.Fu
open PySem PySem.Spec PyProof.Rows
section
variable {X : Cx} {α : Type}
def tDcG (mk : Addr → α → HO) (emp : α) (fits : Hp → α → V → V → α → Prop) (wi : TI) (g : TG) (tt : TT) (tk te : TE) (vs : List Nat) : TE := fun σ H Q => wi σ H fun J H1 => ∀ D, H1 D = none → ∃ W : Nat → Nat → Hp → Prop, (∃ m, W 0 m (upd H1 D (mk D emp))) ∧ ∀ i m H, W i m H →
  (J.stop i H ∧ Q (.ref D) H) ∨ (J.go i H ∧ ∃ Nx : Hp → Prop, (∀ H', Nx H' → ∃ m', m' < m ∧ W (i + 1) m' H') ∧ ∀ x H', J.yld i H x H' → g x (wipe σ vs) H' fun σ2 H2 => wipe σ2 vs = wipe σ vs ∧ tt σ2 H2 fun b H3 =>
    if b = true then tk σ2 H3 fun y H4 => te σ2 H4 fun z H5 => ∃ l l' : α, fits H5 l y z l' ∧ H5 D = some (mk D l) ∧ Nx (upd H5 D (mk D l')) else Nx H3)
theorem pe_dcG {mk : Addr → α → HO} {emp : α} {fits : Hp → α → V → V → α → Prop} {kx vx tg iter : Expr} {ifs : List Expr} {scope : Scope} {own : List (Str × Nat)} {pos : Pos} {wi : TI} {g : TG} {tt : TT} {tk te : TE}
    (hnew : ∀ (H : Hp) (h : Heap), sysModules < h.objs.size → ObjOk X.prog X.w H (h.push { cls := .type "dict", data := .dict #[] }) h.objs.size (mk h.objs.size emp))
    (hadd : ∀ (Y : Cx) (pins : List (Addr × Obj)) (σ : St) (H : Hp) (s : Shared) (a : Addr) (l l' : α) (y z : V) (u r : Value) (E : Value → Shared → Prop) (Q : Unit → Shared → Prop), Y.prog = X.prog → Y.w = X.w → Y.A = X.A → Inv Y pins σ H s → RelV y u → RelV z r → fits H l y z l' → H a = some (mk a l) →
      (∀ s', Inv Y pins σ (upd H a (mk a l')) s' → Q () s') → wpAny (model Y.prog Y.w) Y.A (dictSet a u r) Q E s)
    (hc : X.calm = true) (hN : X.N.Nodup) (hi : PI X tg iter wi) (ok : BlkOk X.N X.env.scope scope own)
    (hg : ∀ (s : Shared) (H : Hp) (C : Addr) (cl : List (Str × Addr)) (fp : List Addr), PG (X.blk s H scope (compEnvC scope cl C X.env) fp) tg g) (ht : ∀ (s : Shared) (H : Hp) (C : Addr) (cl : List (Str × Addr)) (fp : List Addr), PTs (X.blk s H scope (compEnvC scope cl C X.env) fp) ifs tt)
    (hk : ∀ (s : Shared) (H : Hp) (C : Addr) (cl : List (Str × Addr)) (fp : List Addr), PE (X.blk s H scope (compEnvC scope cl C X.env) fp) kx tk) (he : ∀ (s : Shared) (H : Hp) (C : Addr) (cl : List (Str × Addr)) (fp : List Addr), PE (X.blk s H scope (compEnvC scope cl C X.env) fp) vx te) (hs : ∀ x, foldedSetIterable iter X.env x = pure x := by intro _; rfl) :
    PE X (.DictComp kx vx [⟨tg, iter, ifs, 0⟩] scope pos) (tDcG mk emp fits wi g tt tk te (own.map (·.2))) := by
  refine ⟨fun pins s σ H Q I h => ?_⟩
  rw [arm_eval_DictComp]
  have cells : ∀ y ∈ scope.names, y.2 = .free → ∃ c, X.env.cells.lookup y.1 = some c := by
    intro y hy e
    exact (ok.free y hy e).elim (fun k => I.ok.has _ (.inl k)) fun k => I.ok.has _ (.inr k)
  refine wpAny_comprehension_free rfl hs (closure_ok cells) ok.kind (fun y hy e => by rw [ok.uniq y hy, e]) (thn (hi.run pins s σ H _ I h) fun xv s1 hx => thn hx fun itv s2 h2 => ?_)
  obtain ⟨it, fp, tn, J, G, rfl, I2, T, st2, f2, q⟩ := h2
  refine wpAny_newObj_type (newEnv_comp ?_)
  -- the empty set is laid at D, then the block's own frame behind it
  have keep2 : ∀ b o, s2.heap.get? b = some o → (s2.heap.push { cls := .type "dict", data := .dict #[] }).get? b = some o := fun b o e => Heap.get?_push_of_some _ e
  have freeD : G s2.heap.objs.size = none := I2.hok.fresh (Nat.le_refl _)
  have I3 := I2.laid (t' := s2.toks) keep2 (Nat.le_refl _) (hnew (upd G s2.heap.objs.size (mk s2.heap.objs.size emp)) s2.heap I2.big)
  obtain ⟨W, ⟨m0, w0⟩, turn⟩ := q s2.heap.objs.size freeD
  have low : ∀ b ∈ fp, b < s2.heap.objs.size := fun b hb => by
    obtain ⟨o, e, _⟩ := T.obj _ _ st2 b hb
    exact Heap.lt_size e
  have f3 : ∀ b ∈ fp, FpOk X pins (upd G s2.heap.objs.size (mk s2.heap.objs.size emp)) b := fun b hb => by
    obtain ⟨z, zz⟩ := f2 b hb
    exact ⟨by rw [upd_ne (Nat.ne_of_lt (low b hb))]; exact z, zz⟩
  have st3 := T.keep _ _ _ st2 fun b _ o e => keep2 b o e
  generalize s2.heap.objs.size = D at I3 w0 turn f3 ⊢
  have low3 : ∀ b ∈ fp, b < (s2.heap.push { cls := .type "dict", data := .dict #[] }).objs.size := fun b hb => by
    rw [Heap.size_push]
    exact Nat.lt_succ_of_lt (low b hb)
  generalize hs3 : ({ s2 with heap := s2.heap.push { cls := .type "dict", data := .dict #[] } } : Shared) = s3 at I3
  have e3 : s3.heap = s2.heap.push { cls := .type "dict", data := .dict #[] } := by rw [← hs3]
  rw [← e3] at low3 st3
  generalize upd G D (mk D emp) = G3 at I3 w0 f3
  have I4 := block_start I3 ok hN fun b hb => ⟨f3 b hb, low3 b hb⟩
  show codeAny _ _ (.compStart _ 0 (.ref it) (.ref D) (compEnvC scope (cellsFrom (s3.heap.objs.size + 1) scope.names (cloFrom X.env.cells scope.names [])) s3.heap.objs.size X.env)) (compPost (model X.prog X.w) X.A X.xe none _ (.ref D) s3.heap.objs.size) { s3 with heap := pushCells (s3.heap.push { cls := .type "dict", data := .dict #[] }) scope.names }
  have pg := hg s3 G3 s3.heap.objs.size (cellsFrom (s3.heap.objs.size + 1) scope.names (cloFrom X.env.cells scope.names [])) fp
  have pt := ht s3 G3 s3.heap.objs.size (cellsFrom (s3.heap.objs.size + 1) scope.names (cloFrom X.env.cells scope.names [])) fp
  have pk := hk s3 G3 s3.heap.objs.size (cellsFrom (s3.heap.objs.size + 1) scope.names (cloFrom X.env.cells scope.names [])) fp
  have pe := he s3 G3 s3.heap.objs.size (cellsFrom (s3.heap.objs.size + 1) scope.names (cloFrom X.env.cells scope.names [])) fp
  have hL : (compEnvC scope (cellsFrom (s3.heap.objs.size + 1) scope.names (cloFrom X.env.cells scope.names [])) s3.heap.objs.size X.env).locals = s3.heap.objs.size := rfl
  generalize compEnvC scope (cellsFrom (s3.heap.objs.size + 1) scope.names (cloFrom X.env.cells scope.names [])) s3.heap.objs.size X.env = ce at I4 pg pt pk pe hL ⊢
  have st4 : tn 0 ({ s3 with heap := pushCells (s3.heap.push { cls := .type "dict", data := .dict #[] }) scope.names } : Shared).heap := T.keep _ _ _ st3 fun b _ o e => pushCells_keeps _ _ _ _ (Heap.get?_push_of_some _ e)
  generalize ({ s3 with heap := pushCells (s3.heap.push { cls := .type "dict", data := .dict #[] }) scope.names } : Shared) = s4 at I4 st4 ⊢
  have own_fp : ∀ {σ' : St} {H' : Hp} {s' : Shared}, Inv (X.blk s3 G3 scope ce fp) [] σ' H' s' → (∀ b ∈ fp, H' b = none) → ∀ b ∈ fp, FpOk (X.blk s3 G3 scope ce fp) [] H' b := by
    intro σ' H' s' I' hn b hb
    exact ⟨hn b hb, (I'.ok.exf b hb).1, I'.ok.exfs b hb, .inl hb, fun x c e => (I'.ok.exf b hb).2 x c e, fun p hp => nomatch hp⟩
  have loop : codeAny (model X.prog X.w) X.A (.compLoop (.DictComp kx vx [⟨tg, iter, ifs, 0⟩] scope pos) 0 (.ref it) (.ref D) ce) (compPost (model X.prog X.w) X.A X.xe none (EP X pins σ Q) (.ref D) s3.heap.objs.size) s4 := by
    refine compLoop_anyD (fun n t => ∃ (i : Nat) (Hi : Hp), Inv (X.blk s3 G3 scope ce fp) [] (wipe σ (own.map (·.2))) Hi t ∧ tn i t.heap ∧ (∀ b ∈ fp, Hi b = none) ∧ W i n Hi) ?_ m0 ⟨0, G3, I4, st4, fun b hb => (f3 b hb).1, w0⟩
    rintro n t ⟨i, Hi, It, stt, nt, wt⟩
    rcases turn i n Hi wt with ⟨stop, done⟩ | ⟨go, Nx, hNx, step⟩
    · refine thnF (T.done (X.blk s3 G3 scope ce fp) rfl rfl rfl hc i [] t _ Hi (fun _ _ => False) It (own_fp It nt) stt stop) fun r t6 hr => ?_
      obtain ⟨rfl, I6⟩ := hr
      have back : Inv X pins σ Hi t6 := I3.call' (ch := fp) I6.os I6.base I6.hok I6.bare fun b hb => by
        obtain ⟨_, z1, _, z3, z4, z5⟩ := f3 b hb
        exact ⟨z3, z1, z4, z5⟩
      obtain ⟨m, ns, _⟩ := I6.loc
      have ns : t6.heap.Ns ce.locals m := ns
      have free : Hi ce.locals = none := I6.free
      rw [hL] at ns free
      obtain ⟨u0, u1, u2, u3, u4, u5⟩ := I3.fpOk (Nat.le_refl _) free
      exact ⟨m, ns, fun h'' sb => ⟨.ref D, Hi, back.turned (t' := t6.toks) (fun b o hb e => (sb.2 b hb).trans e) u0 u1 u3 u4 u5, rfl, done⟩⟩
    · refine thnF (T.item (X.blk s3 G3 scope ce fp) rfl rfl rfl hc i [] t _ Hi (fun _ _ => False) It (own_fp It nt) stt go) fun r t6 hr => ?_
      obtain ⟨u, rfl, h6⟩ := hr
      refine thnF h6 fun _ t7 hr => ?_
      obtain ⟨x, H7, I7, r7, y7, st7, n7⟩ := hr
      have held := I7.pinned (own_fp I7 n7) (T.obj _ _ st7)
      -- a turn's end: what the iterator leans on stands
      have fin : ∀ (t' : Shared) (σ' : St) (H' : Hp), Inv (X.blk s3 G3 scope ce fp) ([] ++ pinsAt fp t7.heap) σ' H' t' → wipe σ' (own.map (·.2)) = wipe σ (own.map (·.2)) → Nx H' →
          ∃ m, m < n ∧ ∃ (i : Nat) (Hi : Hp), Inv (X.blk s3 G3 scope ce fp) [] (wipe σ (own.map (·.2))) Hi t' ∧ tn i t'.heap ∧ (∀ b ∈ fp, Hi b = none) ∧ W i m Hi := by
        intro t' σ' H' I' hw nx
        obtain ⟨m, lt, w'⟩ := hNx H' nx
        have pin : ∀ b ∈ fp, ∀ o, t7.heap.get? b = some o → t'.heap.get? b = some o ∧ H' b = none := by
          intro b hb o e
          have z := I'.pin (b, o) (List.mem_append_right _ (List.mem_append_right _ (mem_pinsAt hb e)))
          exact ⟨z.1, z.2.1⟩
        have ll : (wipe σ (own.map (·.2))).length = σ'.length := by rw [← hw, wipe_length]
        refine ⟨m, lt, i + 1, H', (I'.unpinned (pins := [])).weak ll (fun j v e => ?_), T.keep _ _ _ st7 fun b hb o e => (pin b hb o e).1, fun b hb => ?_, w'⟩
        · rw [← hw] at e
          exact (wipe_some e).1
        · obtain ⟨o, e, _⟩ := T.obj _ _ st7 b hb
          exact (pin b hb o e).2
      refine thnF (pg.run _ t7 _ H7 x u _ held r7 (step x H7 y7)) fun _ t8 hr => ?_
      obtain ⟨σ8, H8, I8, hw8, q8⟩ := hr
      refine thnF (pt.run _ t8 σ8 H8 _ I8 q8) fun b t9 hr => ?_
      obtain ⟨H9, I9, q9⟩ := hr
      match b, q9 with
      | false, q9 => exact fin t9 σ8 H9 I9 hw8 q9
      | true, q9 =>
        refine thnF (pk.run _ t9 σ8 H9 _ I9 q9) fun zk t9k hr => ?_
        obtain ⟨yk, H9k, I9k, r9k, q9k⟩ := hr
        refine thnF (pe.run _ t9k σ8 H9k _ I9k q9k) fun z t10 hr => ?_
        obtain ⟨yv, H10, I10, r10, l, l', room, hD, nx⟩ := hr
        exact hadd (X.blk s3 G3 scope ce fp) _ _ _ _ _ _ _ _ _ _ _ _ _ rfl rfl rfl I10 r9k r10 room hD fun t11 I11 => fin t11 σ8 _ I11 hw8 nx
  exact codeAny_compStart_dict loop (T.self X.A 0 _ _ _ st4 loop)
end
end L2.Fu

set_option Elab.async false
set_option linter.all false
set_option maxRecDepth 100000
set_option maxHeartbeats 4000000
/-! ## {k: v for ..}, the keys tuples of texts -/
namespace L2.Pu
open PySem PySem.Spec PyProof.Rows
abbrev Zs := List (List Str × Addr × V)
/-- such a dict while it is made -/
def mkZ (w : World) (a : Addr) (zs : Zs) : HO := .ext fun h => ∃ o, h.get? a = some o ∧ DT w a o zs
theorem mkZ_ok {P : Program} {w : World} {H : Hp} {h : Heap} {a : Addr} {zs : Zs} {o : Obj} (e : h.get? a = some o) (t : DT w a o zs) : ObjOk P w H h a (mkZ w a zs) :=
  ⟨⟨o, e, t⟩, ⟨o, e⟩, fun h1 h2 p k => by obtain ⟨o1, e1, t1⟩ := p; exact ⟨o1, k o1 e1, t1⟩⟩
theorem mkZ_new {P : Program} {w : World} {H : Hp} {h : Heap} (hb : sysModules < h.objs.size) : ObjOk P w H (h.push { cls := .type "dict", data := .dict #[] }) h.objs.size (mkZ w h.objs.size []) :=
  mkZ_ok (Heap.get?_push_size _ rfl) ⟨beq_eq_false_iff_ne.mpr (Nat.ne_of_gt hb), Nat.zero_le _, ⟨rfl, rfl, rfl⟩, ⟨#[], 0, [], rfl, .nil, rfl⟩, List.nodup_nil⟩
/-- one more key, a new one -/
def fitsZ (H : Hp) (l : Zs) (y z : V) (l' : Zs) : Prop := ∃ (r : List Str) (q : Addr) (ob : Obj), y = .ref q ∧ H q = some (.frz ob (.tup (r.map V.str))) ∧ (∀ e ∈ l, KeyAt H e) ∧ r ∉ l.map (·.1) ∧ l.length < sizeLine ∧ l' = l ++ [(r, q, z)]
section
variable {X : Cx} {pins : List (Addr × Obj)} {σ : St} {H : Hp} {s : Shared}
theorem DT.of' (I : Inv X pins σ H s) {a : Addr} {o : Obj} {zs : Zs} (h : s.heap.get? a = some o) (t : DT X.w a o zs) (ks : ∀ z ∈ zs, KeyAt H z) :
    ∃ xs : List (List Str × Addr × Value), Paired (fun (z : List Str × Addr × V) (x : List Str × Addr × Value) => x.1 = z.1 ∧ x.2.1 = z.2.1 ∧ RelV z.2.2 x.2.2) zs xs ∧ xs.map (·.1) = zs.map (·.1) ∧ s.heap.DictOfH (tupleKind (mixKind X.prog X.w)) a (xs.map fun x => (keysOf x.1, x.2)) := by
  obtain ⟨es, ep, xs, h1, pr, h3⟩ := t.ents
  have names : xs.map (·.1) = zs.map (·.1) := by
    clear h3 ks t
    induction pr with
    | nil => rfl
    | cons r _ ih => rw [List.map_cons, List.map_cons, ih, r.1]
  refine ⟨xs, pr, names, o, es, ep, h, t.ex, h1, by rw [h3, List.map_map]; rfl, fun y hy => ?_, ?_⟩
  · obtain ⟨x, hx, rfl⟩ := List.mem_map.mp hy
    obtain ⟨i, hi⟩ := List.getElem?_of_mem hx
    have lz : i < zs.length := by
      have := Paired.length pr
      have := (List.getElem?_eq_some_iff.mp hi).1
      omega
    obtain ⟨b, hb, e1, e2, _⟩ := paired_get pr (List.getElem?_eq_getElem lz)
    rw [hi] at hb; cases hb
    obtain ⟨ob, k1, _⟩ := ks zs[i] (List.getElem_mem lz)
    rw [← e1, ← e2] at k1
    exact key_frz I k1
  · rw [List.map_map]
    show (xs.map fun x => keysOf x.1).Nodup
    rw [show (fun x : List Str × Addr × Value => keysOf x.1) = keysOf ∘ (·.1) from rfl, ← List.map_map, names]
    exact nodup_map_inj (fun _ _ => keysOf_inj) t.nd
theorem setZ {E : Value → Shared → Prop} {Q : Unit → Shared → Prop} {a : Addr} {l l' : Zs} {y z : V} {u r : Value} (hu : X.A.units < cLine) (I : Inv X pins σ H s) (ry : RelV y u) (rz : RelV z r) (f : fitsZ H l y z l') (ha : H a = some (mkZ X.w a l))
    (k : ∀ s', Inv X pins σ (upd H a (mkZ X.w a l')) s' → Q () s') : wpAny (model X.prog X.w) X.A (dictSet a u r) Q E s := by
  obtain ⟨r', q, ob, rfl, hq, ks, new, few, rfl⟩ := f
  obtain rfl : u = Value.ref q := ry
  obtain ⟨o, ho, t⟩ := (I.hok a _ ha).1
  obtain ⟨xs, pr, names, dd⟩ := t.of' I ho ks
  have hl : (xs.map fun x => (keysOf x.1, x.2)).length ≤ sizeLine := by rw [List.length_map, ← Paired.length pr]; exact t.few
  have none' : atKey (xs.map fun x => (keysOf x.1, x.2)) (keysOf r') = none := by
    unfold atKey
    rw [Option.map_eq_none_iff, List.find?_eq_none]
    intro y hy
    obtain ⟨x, hx, rfl⟩ := List.mem_map.mp hy
    rw [decide_eq_true_iff]
    intro e
    exact new (by rw [← names]; exact List.mem_map.mpr ⟨x, hx, keysOf_inj e⟩)
  refine wpAny_dictSet_heap (hsz := hl) (show X.A.units < cLine from hu) (key_frz I hq) dd fun h' dd' hs => k _ ?_
  rw [storedH_new none'] at dd'
  obtain ⟨o', es', ep', h1, h2, h3, h4, _, _⟩ := dd'
  refine I.write (e := a) (by rw [ha]; trivial) (.inl rfl) (fun b _ hb e => (hs.2 b hb).trans e) ⟨o', h1⟩ (mkZ_ok h1 ⟨t.sys, by rw [List.length_append, List.length_singleton]; omega, h2, ⟨es', ep', xs ++ [(r', q, r)], h3, Paired.snoc pr ⟨rfl, rfl, rz⟩, ?_⟩, ?_⟩)
  · rw [h4, List.map_append, List.map_append, List.map_map]; rfl
  · rw [List.map_append, List.map_singleton]
    exact List.nodup_append.mpr ⟨t.nd, List.nodup_cons.mpr ⟨List.not_mem_nil, List.nodup_nil⟩, fun x hx y hy e => by
      cases List.mem_singleton.mp hy
      exact new (by have e' : x = r' := e; rw [← e']; exact hx)⟩
end
section
variable {X : Cx}
theorem pe_dcZ {kx vx tg iter : Expr} {ifs : List Expr} {scope : Scope} {own : List (Str × Nat)} {pos : Pos} {wi : TI} {g : TG} {tt : TT} {tk te : TE} (hu : X.A.units < cLine) (hc : X.calm = true) (hN : X.N.Nodup) (hi : PI X tg iter wi) (ok : BlkOk X.N X.env.scope scope own)
    (hg : ∀ (s : Shared) (H : Hp) (C : Addr) (cl : List (Str × Addr)) (fp : List Addr), PG (X.blk s H scope (compEnvC scope cl C X.env) fp) tg g) (ht : ∀ (s : Shared) (H : Hp) (C : Addr) (cl : List (Str × Addr)) (fp : List Addr), PTs (X.blk s H scope (compEnvC scope cl C X.env) fp) ifs tt)
    (hk : ∀ (s : Shared) (H : Hp) (C : Addr) (cl : List (Str × Addr)) (fp : List Addr), PE (X.blk s H scope (compEnvC scope cl C X.env) fp) kx tk) (he : ∀ (s : Shared) (H : Hp) (C : Addr) (cl : List (Str × Addr)) (fp : List Addr), PE (X.blk s H scope (compEnvC scope cl C X.env) fp) vx te) (hs : ∀ x, foldedSetIterable iter X.env x = pure x := by intro _; rfl) :
    PE X (.DictComp kx vx [⟨tg, iter, ifs, 0⟩] scope pos) (Fu.tDcG (mkZ X.w) [] fitsZ wi g tt tk te (own.map (·.2))) :=
  Fu.pe_dcG (fun H h hb => mkZ_new hb) (fun Y pins σ H s a l l' y z u r E Q hp hw hA I ry rz f ha k => by
    rw [← hw] at ha k
    exact setZ (by rw [hA]; exact hu) I ry rz f ha k) hc hN hi ok hg ht hk he hs
end
end L2.Pu

set_option Elab.async false
set_option linter.all false
set_option maxRecDepth 100000
set_option maxHeartbeats 4000000
/-! ## {k: v for ..}, dict([(k, v), ..]), the keys tuples of texts: data at once -/
namespace L2.Pu
open PySem PySem.Spec PyProof.Rows
theorem mkZ_nocode {w : World} {p : Addr} {L : Zs} {q : Str} : mkZ w p L ≠ LamX.CodeO p q := fun e => by
  have e1 := HO.ext.inj e
  let o : Obj := { cls := .none, data := .fields #[.none, .str q 0] }
  let h : Heap := (⟨Array.replicate p o, {}⟩ : Heap).push o
  have hg : h.get? p = some o := by
    have := Heap.get?_push_size (⟨Array.replicate p o, {}⟩ : Heap) (o := o) rfl
    simpa [Array.size_replicate] using this
  have : ∃ o, h.get? p = some o ∧ DT w p o L := by
    have z := congrFun e1 h
    rw [z]
    exact ⟨o, _, 0, hg, rfl, rfl⟩
  obtain ⟨o2, hd, t⟩ := this
  rw [hg] at hd
  have e2 := Option.some.inj hd
  obtain ⟨es, ep, xs, hdt, _⟩ := t.ents
  rw [← e2] at hdt
  cases hdt
/-- locked at the end -/
def tLockZ (w : World) (t : TE) : TE := fun σ H Q => t σ H fun v H1 => ∃ (d : Addr) (zs : Zs), v = .ref d ∧ H1 d = some (mkZ w d zs) ∧ ∀ o, DT w d o zs → Q v (upd H1 d (.frz o (mkZ w d zs)))
theorem pe_lockZ {X : Cx} {e : Expr} {t : TE} (h : PE X e t) : PE X e (tLockZ X.w t) := ⟨fun pins s σ H Q I k => by
  refine thn (h.run pins s σ H _ I k) fun v s1 g => ?_
  obtain ⟨x, H1, I1, r1, d, zs, rfl, hd, q⟩ := g
  obtain ⟨od, I2⟩ := I1.lock hd trivial
  obtain ⟨o, ho, dt⟩ := (I1.hok d _ hd).1
  have e1 := (I2.hok d _ upd_same).1
  rw [ho] at e1
  cases e1
  exact ⟨.ref d, _, I2, r1, q _ dt⟩⟩
/-- the turns of a dict comprehension -/
def dcL (g : QG) (tt : QT) (tk te : QE) (vs : List Nat) (κ : List (List Str × PyData) → Ro → Prop) : List PyData → List (List Str × PyData) → Ro → Prop
  | [], acc, ρ => κ acc ρ
  | d :: ds, acc, ρ => ∃ N : List (List Str × PyData) → Ro → Prop, (∀ acc' ρ', N acc' ρ' → dcL g tt tk te vs κ ds acc' ρ') ∧ g d ρ fun ρ1 => tt ρ1 fun b ρ2 => yn b (tk ρ2 fun y ρ3 => te ρ3 fun z ρ4 => ∃ r, y = tupS r ∧ r ∉ acc.map (·.1) ∧ N (acc ++ [(r, z)]) (wipeR ρ4 vs)) (N acc (wipeR ρ2 vs))
def qDc (qi : QI) (g : QG) (tt : QT) (tk te : QE) (vs : List Nat) : QE := fun ρ κ => qi ρ fun ds ρ1 => dcL g tt tk te vs (fun acc ρ2 => acc ≠ [] ∧ κ (dtD acc) (backR ρ1 ρ2 vs)) ds [] (wipeR ρ1 vs)
theorem da_key {w : World} {C H : Hp} {v : V} {r : List Str} (h : Da w C v (tupS r)) (s : Same C H) : ∃ (q : Addr) (ob : Obj), v = .ref q ∧ H q = some (.frz ob (.tup (r.map V.str))) ∧ C q = some (.frz ob (.tup (r.map V.str))) ∧ ob.dict = none := by
  generalize ht : tupS r = tt at h
  cases h with
  | @tup b ob xs ds eb nb hb =>
    unfold tupS at ht
    injection ht with ht
    subst ht
    rw [strs_of hb] at eb
    exact ⟨b, ob, rfl, s _ _ eb, eb, nb⟩
  | _ => cases ht
theorem dc_imp {T : PK} {qi : QI} {g : QG} {tt : QT} {tk te : QE} {vs : List Nat} : ∀ σ H Q, liftE T (qDc qi g tt tk te vs) σ H Q → tLockZ T.w (Fu.tDcG (mkZ T.w) [] fitsZ (liftI T qi) (liftGv T vs g) (liftT T tt) (liftE T tk) (liftE T te) vs) σ H Q := by
  rintro σ H Q ⟨F, ρ, C, R, κ, k, z⟩
  refine ⟨F, ρ, C, R, _, k, fun ds ρ1 C1 H1 J k1 s1 R1 wk D hD => ?_⟩
  refine ⟨fun i m H => m + i = ds.length ∧ ∃ ρ2 C2 zs acc, Same C1 C2 ∧ Rep T F ρ2 C2 (wipe σ vs) H ∧ H D = some (mkZ T.w D zs) ∧ (∀ z ∈ zs, KeyAt C2 z) ∧ zs.map (·.1) = acc.map (·.1) ∧ DaAll T.w C2 (zs.map (·.2.2)) (acc.map (·.2)) ∧ Fresh F ρ2 C2 (wipe σ vs) D ∧ zs.length ≤ i ∧ dcL g tt tk te vs (fun acc ρ2 => acc ≠ [] ∧ κ (dtD acc) (backR ρ1 ρ2 vs)) (ds.drop i) acc ρ2,
    ⟨ds.length, rfl, wipeR ρ1 vs, C1, [], [], same_refl _, (R1.layH hD).wipe vs, upd_same, (fun _ z => nomatch z), rfl, .nil, (R1.new_fresh hD).mono_wipe, Nat.le_refl _, k1⟩, ?_⟩
  have hr := R1.ref_ne hD
  have c0 := R1.c0_none (sub_none R1.sub hD)
  have few := wk.few
  have wiped : ∀ us : List Nat, (∀ u ∈ us, u ∈ vs) → wipe (wipe σ us) vs = wipe σ vs := by
    intro us
    induction us with
    | nil => intro _; rfl
    | cons u us ih =>
      intro h
      show wipe ((wipe σ us).set u none) vs = _
      rw [wipe_set (h u List.mem_cons_self), ih fun w hw => h w (List.mem_cons_of_mem _ hw)]
  rintro i m H2 ⟨hm, ρ2, C2, zs, acc, s2, R2, e2, ks2, ke2, da2, f2, l2, k2⟩
  by_cases lt : i < ds.length
  · have hd : ds.drop i = ds[i] :: ds.drop (i + 1) := List.drop_eq_getElem_cons lt
    rw [hd] at k2
    obtain ⟨N, hN, k2⟩ := k2
    refine .inr ⟨wk.go i C2 H2 s2 R2.sub lt, fun H' => ∃ ρ3 C3 zs acc, Same C1 C3 ∧ Rep T F ρ3 C3 (wipe σ vs) H' ∧ H' D = some (mkZ T.w D zs) ∧ (∀ z ∈ zs, KeyAt C3 z) ∧ zs.map (·.1) = acc.map (·.1) ∧ DaAll T.w C3 (zs.map (·.2.2)) (acc.map (·.2)) ∧ Fresh F ρ3 C3 (wipe σ vs) D ∧ zs.length ≤ i + 1 ∧ N acc ρ3, ?_, ?_⟩
    · rintro H' ⟨ρ3, C3, L3, acc3, s3, R3, e3, ks3, ke3, da3, f3, l3, n3⟩
      exact ⟨m - 1, by omega, by omega, ρ3, C3, L3, acc3, s3, R3, e3, ks3, ke3, da3, f3, l3, hN _ _ n3⟩
    · intro x H3 hy
      have Rg := R2.guard f2 e2
      obtain ⟨d, C3, hd1, s3, R3, hd2⟩ := wk.yld i _ ρ2 C2 _ H2 x H3 Rg s2 hy lt
      have : ds[i] = d := by rw [List.getElem?_eq_getElem lt] at hd1; exact Option.some.inj hd1
      rw [this] at k2
      have nt : ∀ xs, mkZ T.w D zs ≠ .tup xs := fun xs e => nomatch e
      have no : NoTb (mkZ T.w D zs) := fun xs e => nomatch e
      refine ⟨_, ρ2, C3, d, R3, hd2, _, k2, fun ρ4 C4 σ4 H4 k4 s4 R4 w4 => ⟨w4.trans (wiped vs fun _ h => h), _, ρ4, C4, R4, _, k4, fun b ρ5 C5 H5 k5 s5 R5 => ?_⟩⟩
      have w4' : wipe σ4 vs = wipe σ vs := w4.trans (wiped vs fun _ h => h)
      have s35 := same_trans s3 (same_trans s4 s5)
      have s15 := same_trans s2 s35
      have keyUp : ∀ {A B : Hp}, Same A B → (∀ z ∈ zs, KeyAt A z) → ∀ z ∈ zs, KeyAt B z := fun s h z hz => by
        obtain ⟨ob, h1, h2⟩ := h z hz
        exact ⟨ob, s _ _ h1, h2⟩
      cases b with
      | false =>
        obtain ⟨R6, e6, f6⟩ := R5.unguard nt no f2.start c0 hr
        exact ⟨wipeR ρ5 vs, C5, zs, acc, s15, by rw [← w4']; exact R6.wipe vs, e6, keyUp s35 ks2, ke2, da2.mono s35, by rw [← w4']; exact f6.mono_wipe, Nat.le_succ_of_le l2, k5⟩
      | true =>
        refine ⟨_, ρ5, C5, R5, _, k5, fun y ρ6 v C6 H6 k6 s6 R6 d6 => ⟨_, ρ6, C6, R6, _, k6, fun y2 ρ7 v2 C7 H7 k7 s7 R7 d7 => ?_⟩⟩
        obtain ⟨r, rfl, new, k7⟩ := k7
        obtain ⟨R8, e8, f8⟩ := R7.unguard nt no f2.start c0 hr
        obtain ⟨q, ob, rfl, hq, cq, nd⟩ := da_key (d6.mono s7) R8.sub
        have s27 := same_trans s35 (same_trans s6 s7)
        have nc : (∀ ps, H7 D ≠ some (.tbl ps)) ∧ ∀ q, H7 D ≠ some (LamX.CodeO D q) := ⟨fun _ z => (by rw [e8] at z; exact no _ (Option.some.inj z)), fun _ z => (by rw [e8] at z; exact mkZ_nocode (Option.some.inj z))⟩
        refine ⟨zs, zs ++ [(r, q, v2)], ⟨r, q, ob, rfl, hq, fun z hz => ?_, by rw [ke2]; exact new, by omega, rfl⟩, e8, wipeR ρ7 vs, C7, zs ++ [(r, q, v2)], acc ++ [(r, y2)], same_trans s2 s27, ?_, upd_same, ?_, by rw [List.map_append, List.map_append, ke2]; rfl, ?_, by rw [← w4']; exact f8.mono_wipe, by rw [List.length_append]; show _ + 1 ≤ _; omega, k7⟩
        · obtain ⟨ob', h1, h2⟩ := ks2 z hz
          exact ⟨ob', R8.sub _ _ (s27 _ _ h1), h2⟩
        · rw [← w4']; exact (R8.writeF f8 hr nc (mkZ T.w D (zs ++ [(r, q, v2)])) (fun xs e => nomatch e)).wipe vs
        · intro z hz
          rcases List.mem_append.mp hz with hz | hz
          · exact keyUp s27 ks2 z hz
          · cases List.mem_singleton.mp hz
            exact ⟨ob, cq, nd⟩
        · rw [List.map_append, List.map_append]
          exact (da2.mono s27).snoc d7
  · refine .inl ⟨wk.stop i C2 H2 s2 R2.sub (by omega), D, zs, rfl, e2, fun o dt => ?_⟩
    rw [List.drop_eq_nil_of_le (by omega)] at k2
    have Rb := Rep.back R1 s2 R2
    have fb : Fresh F (backR ρ1 ρ2 vs) C2 σ D := ⟨f2.core, f2.start, fun j r o hj hv => by
      rcases backR_get hj with ⟨_, e | ⟨_, e, _⟩⟩ | ⟨a, b⟩
      · cases e
      · cases e
      · exact f2.owned j r o b (by rw [wipe_get a]; exact hv)⟩
    have nc : (∀ ps, H2 D ≠ some (.tbl ps)) ∧ ∀ q, H2 D ≠ some (LamX.CodeO D q) := ⟨fun _ z => (by rw [e2] at z; cases z), fun _ z => (by rw [e2] at z; exact mkZ_nocode (Option.some.inj z))⟩
    have R9 := (Rb.writeF fb hr nc (.frz o (mkZ T.w D zs)) (fun xs e => nomatch e)).adopt fb upd_same
    have sD := same_new (o := .frz o (mkZ T.w D zs)) f2.core
    exact z _ _ _ _ _ k2.2 (same_trans s1 (same_trans s2 sD)) R9 (.dicT upd_same dt (fun z hz => let ⟨ob, h1, h2⟩ := ks2 z hz; ⟨ob, sD _ _ h1, h2⟩) ke2 k2.1 (da2.mono sD))
section
variable {X : Cx} {τ : Tb} {pos : Pos}
theorem qe_dc {kx vx tg iter : Expr} {ifs : List Expr} {scope : Scope} {own : List (Str × Nat)} {qi : QI} {g : QG} {tt : QT} {tk te : QE} (hu : X.A.units < cLine) (hc : X.calm = true) (hN : X.N.Nodup) (hi : PQI τ X tg iter qi) (ok : BlkOk X.N X.env.scope scope own)
    (hg : ∀ (s : Shared) (H : Hp) (C : Addr) (cl : List (Str × Addr)) (fp : List Addr), PQGv τ (X.blk s H scope (compEnvC scope cl C X.env) fp) (own.map (·.2)) tg g) (ht : ∀ (s : Shared) (H : Hp) (C : Addr) (cl : List (Str × Addr)) (fp : List Addr), PQTs τ (X.blk s H scope (compEnvC scope cl C X.env) fp) ifs tt)
    (hk : ∀ (s : Shared) (H : Hp) (C : Addr) (cl : List (Str × Addr)) (fp : List Addr), PQ τ (X.blk s H scope (compEnvC scope cl C X.env) fp) kx tk) (he : ∀ (s : Shared) (H : Hp) (C : Addr) (cl : List (Str × Addr)) (fp : List Addr), PQ τ (X.blk s H scope (compEnvC scope cl C X.env) fp) vx te) (hs : ∀ x, foldedSetIterable iter X.env x = pure x := by intro _; rfl) :
    PQ τ X (.DictComp kx vx [⟨tg, iter, ifs, 0⟩] scope pos) (qDc qi g tt tk te (own.map (·.2))) :=
  pe_imp _ (pe_lockZ (pe_dcZ (wi := liftI (X.pk τ) qi) (g := liftGv (X.pk τ) (own.map (·.2)) g) (tt := liftT (X.pk τ) tt) (tk := liftE (X.pk τ) tk) (te := liftE (X.pk τ) te) hu hc hN hi ok hg ht hk he hs)) dc_imp
end
/-- no test, the key the thing itself -/
theorem dcL_map {i : Nat} {tk te : QE} {vs : List Nat} {κ : List (List Str × PyData) → Ro → Prop} {ρ : Ro} (f : List Str → PyData) (hw : ∀ d, wipeR (ρ.set i (.val d)) vs = ρ) : ∀ (rs : List (List Str)) (acc : List (List Str × PyData)), (∀ r ∈ rs, r ∉ acc.map (·.1)) → rs.Nodup →
    (∀ r ∈ rs, ∀ k : PyData → Ro → Prop, k (tupS r) (ρ.set i (.val (tupS r))) → tk (ρ.set i (.val (tupS r))) k) → (∀ r ∈ rs, ∀ k : PyData → Ro → Prop, k (f r) (ρ.set i (.val (tupS r))) → te (ρ.set i (.val (tupS r))) k) →
    κ (acc ++ rs.map fun r => (r, f r)) ρ → dcL (gN i) qYes tk te vs κ (rs.map tupS) acc ρ
  | [], acc, _, _, _, _, k => by rw [List.map_nil, List.append_nil] at k; exact k
  | r :: rs, acc, hn, nd, h1, h2, k => by
    rw [List.nodup_cons] at nd
    refine ⟨fun acc' ρ' => acc' = acc ++ [(r, f r)] ∧ ρ' = ρ, fun acc' ρ' h => ?_, ?_⟩
    · obtain ⟨rfl, rfl⟩ := h
      refine dcL_map f hw rs _ (fun r' hr' hm => ?_) nd.2 (fun r hr => h1 r (List.mem_cons_of_mem _ hr)) (fun r hr => h2 r (List.mem_cons_of_mem _ hr)) ?_
      · rw [List.map_append, List.mem_append] at hm
        rcases hm with hm | hm
        · exact hn r' (List.mem_cons_of_mem _ hr') hm
        · have : r' = r := by simpa using hm
          exact nd.1 (this ▸ hr')
      · rw [List.append_assoc]; exact k
    · refine h1 r List.mem_cons_self _ (h2 r List.mem_cons_self _ ?_)
      exact ⟨r, rfl, hn r List.mem_cons_self, rfl, hw _⟩
end L2.Pu

set_option Elab.async false
set_option linter.all false
set_option maxRecDepth 100000
set_option maxHeartbeats 4000000
/-! ## dict([(k, v), ..]) with tuples of texts as keys; an own dict becomes data; d.get(k) -/
namespace L2.Pu
open PySem PySem.Spec PyProof.Rows
section
variable {X : Cx} {pins : List (Addr × Obj)} {σ : St} {H : Hp} {s : Shared}
abbrev ZX (z : List Str × Addr × V) (x : List Str × Addr × Value) : Prop := x.1 = z.1 ∧ x.2.1 = z.2.1 ∧ RelV z.2.2 x.2.2
theorem pairsZ (I : Inv X pins σ H s) : ∀ {ps : List Addr} {zs : Zs}, Paired (fun p z => SqT X.K H p [.ref z.2.1, z.2.2]) ps zs →
    ∃ xs : List (List Str × Addr × Value), Paired ZX zs xs ∧ xs.length = ps.length ∧ ∀ (j : Nat) x, xs[j]? = some x → ∃ b, ps[j]? = some b ∧ IsTup s.heap b #[.ref x.2.1, x.2.2]
  | _, _, .nil => ⟨[], .nil, rfl, fun j x e => by simp at e⟩
  | _, _, .cons (a := p) (b := z) h t => by
    obtain ⟨xs, h1, h2, h3⟩ := pairsZ I t
    obtain ⟨its, rv, it, _⟩ := I.tuple h
    cases rv with
    | cons r1 r2 =>
      cases r2 with
      | cons r3 r4 =>
        cases r4
        cases r1
        refine ⟨(z.1, z.2.1, _) :: xs, .cons ⟨rfl, rfl, r3⟩ h1, by rw [List.length_cons, List.length_cons, h2], fun j x e => ?_⟩
        cases j with
        | zero => rw [List.getElem?_cons_zero] at e; cases e; exact ⟨p, rfl, it⟩
        | succ j => rw [List.getElem?_cons_succ] at e ⊢; exact h3 j x e
end
theorem storedAllH_new {K : Type} [DecidableEq K] : ∀ (ps xs : List (K × Addr × Value)), ((xs ++ ps).map (·.1)).Nodup → storedAllH xs ps = xs ++ ps
  | [], xs, _ => by rw [List.append_nil]; rfl
  | p :: ps, xs, h => by
    have none' : atKey xs p.1 = none := by
      unfold atKey
      rw [Option.map_eq_none_iff, List.find?_eq_none]
      intro y hy
      rw [decide_eq_true_iff]
      intro e
      rw [List.map_append, List.nodup_append] at h
      exact h.2.2 y.1 (List.mem_map.mpr ⟨y, hy, rfl⟩) p.1 (List.mem_map.mpr ⟨p, List.mem_cons_self, rfl⟩) e
    show storedAllH (storedH xs p.1 p.2.1 p.2.2) ps = _
    rw [storedH_new none', storedAllH_new ps _ (by rw [List.append_assoc]; exact h), List.append_assoc]
    rfl
section
variable {X : Cx} {τ : Tb} {pos p : Pos} {e : Expr} {es : List Expr}
def rDictZ (w : World) (K : PySem.W.Frag) : RN := fun xs H Q => ∃ (a : Addr) (ps : List Addr) (zs : Zs), xs = [.ref a] ∧ SqL K H a (ps.map V.ref) ∧ Paired (fun p z => SqT K H p [.ref z.2.1, z.2.2]) ps zs ∧ (∀ z ∈ zs, KeyAt H z) ∧ (zs.map (·.1)).Nodup ∧
    ∀ p o, H p = none → DT w p o zs → Q (.ref p) (upd H p (.frz o (mkZ w p zs)))
theorem call_dictZ (calm : X.calm = true) (hu : X.A.units + 2 < cLine) : CallR X (.type "dict") (rDictZ X.w X.K) := by
  intro pins s σ H xs us Q I r k
  obtain ⟨a, ps, zs, rfl, sq, hp, ks, nd, q⟩ := k
  obtain ⟨u, rfl, ru⟩ := vals1 r
  cases ru
  obtain ⟨xs, rel, hl, hpr⟩ := pairsZ I hp
  obtain ⟨its, rv, pl, zl⟩ := I.list sq
  have e1 := refs_at rv
  subst e1
  rw [List.length_map] at zl
  have names : xs.map (·.1) = zs.map (·.1) := by
    clear hpr hl ks q nd hp
    induction rel with
    | nil => rfl
    | cons r _ ih => rw [List.map_cons, List.map_cons, ih, r.1]
  have ndx : ((xs.map fun x => (keysOf x.1, x.2)).map (·.1)).Nodup := by
    rw [List.map_map]
    show (xs.map fun x => keysOf x.1).Nodup
    rw [show (fun x : List Str × Addr × Value => keysOf x.1) = keysOf ∘ (·.1) from rfl, ← List.map_map, names]
    exact nodup_map_inj (fun _ _ => keysOf_inj) nd
  have keyat : ∀ x ∈ xs, ∃ ob, H x.2.1 = some (.frz ob (.tup (x.1.map V.str))) := fun x hx => by
    obtain ⟨i, hi⟩ := List.getElem?_of_mem hx
    have lz : i < zs.length := by
      have := Paired.length rel
      have := (List.getElem?_eq_some_iff.mp hi).1
      omega
    obtain ⟨b, hb, e1, e2, _⟩ := paired_get rel (List.getElem?_eq_getElem lz)
    rw [hi] at hb; cases hb
    obtain ⟨ob, k1, _⟩ := ks zs[i] (List.getElem_mem lz)
    rw [← e1, ← e2] at k1
    exact ⟨ob, k1⟩
  let pv : List (Value × Value) := xs.map fun x => (Value.ref x.2.1, x.2.2)
  have pvl : pv.length = ps.length := by simp [pv, hl]
  have pv_at : ∀ (j : Nat) k v, pv[j]? = some (k, v) → ∃ x, xs[j]? = some x ∧ k = .ref x.2.1 ∧ v = x.2.2 := fun j k v e => by
    simp only [pv, List.getElem?_map, Option.map_eq_some_iff] at e
    obtain ⟨x, e1, e2⟩ := e
    cases e2
    exact ⟨x, e1, rfl, rfl⟩
  refine PySem.call_dict_pairsH (knd := tupleKind (mixKind X.prog X.w)) (ps := xs.map fun x => (keysOf x.1, x.2)) (PySem.PairArg.list a (ps.map Value.ref).toArray (fun j => ps.getD j 0) pv) (I.ok.hd calm) (show X.A.units + 2 < cLine from hu) ⟨?_, ?_, fun j k v e => ?_⟩ ⟨?_, fun j k v e => ?_⟩ (fun h' kp x hx => ?_) (by rw [pvl]; exact zl) fun h' tk hd' kp => ?_
  · exact pl
  · rw [pvl]; simp
  · obtain ⟨x, e1, rfl, rfl⟩ := pv_at j k v e
    obtain ⟨b, h1, h2⟩ := hpr j x e1
    have : ps.getD j 0 = b := by rw [List.getD_eq_getElem?_getD, h1]; rfl
    dsimp only
    rw [this]
    refine ⟨by simp [h1], .inl ?_⟩
    obtain ⟨o, a1, a2, m, a3⟩ := h2
    exact ⟨o, a1, a2, m, a3⟩
  · rw [List.length_map, hl, pvl]
  · obtain ⟨x, e1, rfl, rfl⟩ := pv_at j k v e
    exact ⟨keysOf x.1, x.2.1, by rw [List.getElem?_map, e1]; rfl, rfl⟩
  · obtain ⟨y, hy, rfl⟩ := List.mem_map.mp hx
    obtain ⟨ob, hk⟩ := keyat y hy
    obtain ⟨o, items, n, h1, h2, h3, h4⟩ := key_frz I hk
    exact ⟨o, items, n, kp _ _ (Nat.ne_of_lt (Heap.lt_size h1)) (fun z => nomatch z) h1, h2, h3, h4⟩
  · rw [storedAllH_new _ _ (by rw [List.nil_append]; exact ndx), List.nil_append] at hd'
    obtain ⟨o', es', ep', h1, h2, h3, h4, _, _⟩ := hd'
    have hm : (s.heap.objs.size == sysModules) = false := beq_eq_false_iff_ne.mpr (Nat.ne_of_gt I.big)
    have ln : zs.length ≤ sizeLine := by have := Paired.length rel; omega
    have dt : DT X.w s.heap.objs.size o' zs := ⟨hm, ln, h2, ⟨es', ep', xs, h3, rel, by rw [h4, List.map_map]; rfl⟩, nd⟩
    have J := I.laid (t' := tk) (fun b o e => kp b o (fun z => nomatch z) e) (Nat.le_refl _) (show ObjOk X.prog X.w (upd H s.heap.objs.size (.frz o' (mkZ X.w s.heap.objs.size zs))) h' s.heap.objs.size (.frz o' (mkZ X.w s.heap.objs.size zs)) from ⟨h1, mkZ_ok h1 dt⟩)
    exact ⟨.ref s.heap.objs.size, _, J, rfl, q _ _ (I.hok.fresh (Nat.le_refl _)) dt⟩
def dictZD : DN := fun ds P => match ds with
  | [.list xs] => ∃ rds : List (List Str × PyData), xs = rds.map (fun e => .tuple [tupS e.1, e.2]) ∧ (rds.map (·.1)).Nodup ∧ rds ≠ [] ∧ P (dtD rds)
  | _ => False
theorem pairs_areZ {w : World} {K : PySem.W.Frag} {C H : Hp} (s : Same C H) : ∀ {rds : List (List Str × PyData)} {vs : List V}, DaAll w C vs (rds.map fun e => .tuple [tupS e.1, e.2]) →
    ∃ (ps : List Addr) (zs : Zs), vs = ps.map V.ref ∧ Paired (fun p z => SqT K H p [.ref z.2.1, z.2.2]) ps zs ∧ zs.map (·.1) = rds.map (·.1) ∧ DaAll w C (zs.map (·.2.2)) (rds.map (·.2)) ∧ ∀ z ∈ zs, KeyAt C z
  | [], _, h => by cases h; exact ⟨[], [], rfl, .nil, rfl, .nil, (fun _ z => nomatch z)⟩
  | e :: rds, _, h => by
    rw [List.map_cons] at h
    cases h with
    | cons a t =>
      obtain ⟨ps, zs, rfl, w1, w2, w3, w4⟩ := pairs_areZ (K := K) s t
      generalize ht : (PyData.tuple [tupS e.1, e.2]) = tt at a
      cases a with
      | @tup b ob ys _ eb nb hb =>
        injection ht with ht
        subst ht
        cases hb with
        | cons b1 t1 =>
          cases t1 with
          | cons b2 t2 =>
            cases t2
            obtain ⟨q, oq, rfl, _, hq, nq⟩ := da_key b1 s
            exact ⟨b :: ps, (e.1, q, _) :: zs, rfl, .cons (sqF (s _ _ eb)) w1, by rw [List.map_cons, List.map_cons, w2], .cons b2 w3, fun z hz => by
              rcases List.mem_cons.mp hz with rfl | hz
              · exact ⟨oq, hq, nq⟩
              · exact w4 z hz⟩
      | _ => cases ht
theorem ok_dictZ : OkN τ X (rDictZ X.w X.K) dictZD := by
  intro F ρ C σ H vs ds P Q R a h z
  cases a with
  | nil => exact False.elim h
  | cons a t =>
    cases t with
    | cons => cases a <;> exact False.elim h
    | nil =>
      cases a with
      | @lst b us ds e ha =>
        obtain ⟨rds, rfl, nd, ne, hP⟩ := h
        obtain ⟨ps, zs, rfl, w1, w2, w3, w4⟩ := pairs_areZ (K := X.K) R.sub ha
        refine ⟨b, ps, zs, rfl, SqL.of e, w1, fun z hz => let ⟨ob, h1, h2⟩ := w4 z hz; ⟨ob, R.sub _ _ h1, h2⟩, by rw [w2]; exact nd, fun p o np dt => ?_⟩
        have cp := sub_none R.sub np
        have sD := same_new (o := .frz o (mkZ X.w p zs)) cp
        exact z _ _ _ _ hP sD (R.lay np) (.dicT upd_same dt (fun z hz => let ⟨ob, h1, h2⟩ := w4 z hz; ⟨ob, sD _ _ h1, h2⟩) w2 ne (w3.mono sD))
      | _ => exact False.elim h
theorem qe_dictZ {as : List BArg} (hc : X.calm = true) (hu : X.A.units + 2 < cLine) (hg : Gl X "dict") (hm : X.mg "dict" = none) (ha : PQB τ X (e :: es) as) (he : starEach (e :: es) X.env = (false, eval e X.env) :: starEach es X.env := by rfl) (hpl : (backTo pos (starEach es X.env)).any (·.1) = false := by rfl) :
    PQ τ X (.Call (.Name "dict" p) (e :: es) [] pos) (qBlt dictZD as) := qe_bty (call_dictZ hc hu) ok_dictZ hg hm (by decide +kernel) ha (by decide) (by decide) he hpl
/-! ### an own dict becomes data -/
def tLockK (t : TE) : TE := fun σ H Q => t σ H fun v H1 => ∃ (d : Addr) (kvs : List (Key × V)), v = .ref d ∧ H1 d = some (.dK kvs) ∧ ∀ o, Q v (upd H1 d (.frz o (.dK kvs)))
theorem pe_lockK {t : TE} (h : PE X e t) : PE X e (tLockK t) := ⟨fun pins s σ H Q I k => by
  refine thn (h.run pins s σ H _ I k) fun v s1 g => ?_
  obtain ⟨x, H1, I1, r1, d, kvs, rfl, hd, q⟩ := g
  obtain ⟨od, I2⟩ := I1.lock hd trivial
  exact ⟨.ref d, _, I2, r1, q _⟩⟩
theorem Rep.writeU {T : PK} {F : Fm} {ρ : Ro} {C : Hp} {σ : St} {H : Hp} {i : Nat} {p : Addr} (R : Rep T F ρ C σ H) {o : Own} {u : HO} (hi : ρ[i]? = some (.own false o)) (hv : σ[i]? = some (some (.ref p))) (no : NoTb u := by intro _ z; cases z) : Rep T F (ρ.set i .un) C σ (upd H p u) ∧ Fresh F (ρ.set i .un) C σ p := by
  obtain ⟨p', e, cp, wo, fr⟩ := R.slot i _ hi
  rw [hv] at e; cases e
  have fr : F.H0 p = none := fr
  have back : ∀ {j : Nat} {r1 o1}, (ρ.set i .un)[j]? = some (.own r1 o1) → j ≠ i ∧ ρ[j]? = some (.own r1 o1) := fun {j r1 o1} h => by
    rcases getElem?_set' h with ⟨_, z, _⟩ | ⟨ne, h⟩
    · cases z
    · exact ⟨ne, h⟩
  refine ⟨⟨R.c0, same_off R.sub cp, fun b v k nv hr => ?_, R.tbl, fun b ps k => ?_, R.ctab, tabs_upd R.tabs wo.notab, R.new, fun q hq => ?_, R.sys, by rw [List.length_set, R.len], fun j t hj => ?_, fun j k q r1 r2 o1 o2 jk hj hk vj vk => ?_⟩, cp, fr, fun j r o1 hj hvj => ?_⟩
  · have ne : b ≠ p := fun e => by rw [e, fr] at k; cases k
    rw [upd_ne ne]; exact R.keep b v k nv hr
  · by_cases hb : b = p
    · subst hb; rw [upd_same] at k; cases k; exact absurd rfl (no ps)
    · rw [upd_ne hb] at k; exact R.htb b ps k
  · by_cases e : q.2 = p
    · exact ⟨u, by rw [e, upd_same]⟩
    · rw [upd_ne e]; exact R.refd q hq
  · rcases getElem?_set' hj with ⟨rfl, rfl, hl⟩ | ⟨ne, hj⟩
    · trivial
    · have h := R.slot j t hj
      cases t with
      | un => trivial
      | val d => exact h
      | scr ns => exact h
      | exc c d => exact h
      | fnc f c q σc vs => exact h
      | own r1 o1 =>
        obtain ⟨p1, a, b, c, d⟩ := h
        have np : p1 ≠ p := fun e => R.apart j i p r1 false o1 o ne hj hi (by rw [← e]; exact a) hv
        exact ⟨p1, a, b, c.mono (same_refl _) (upd_ne np), d⟩
  · exact R.apart j k q _ _ _ _ jk (back hj).2 (back hk).2 vj vk
  · exact R.apart j i p r false o1 o (back hj).1 (back hj).2 hi hvj hv
/-- the data of a dict with texts and ints as keys -/
def dkD (es : List (Key × PyData)) : PyData := .dict (es.map fun e => (keyD e.1, e.2))
def qFrzD (i : Nat) : QE := fun ρ κ => match ρ[i]? with
  | some (.own false (.dic es)) => κ (dkD es) (ρ.set i (.val (dkD es)))
  | _ => False
theorem qe_frzD {i : Nat} {x : Str} (p : PE X (.Name x pos) (tVar i)) : PQ τ X (.Name x pos) (qFrzD i) := by
  refine pe_imp _ (pe_lockK p) ?_
  rintro σ H Q ⟨F, ρ, C, R, κ, k, q⟩
  unfold qFrzD at k
  split at k
  · rename_i es e
    obtain ⟨a, hv, cp, kvs, hp, hk, hd⟩ := R.own e
    refine ⟨_, hv, a, kvs, rfl, hp, fun o => ?_⟩
    obtain ⟨R1, f1⟩ := R.writeU (u := .frz o (.dK kvs)) e hv
    have sD := same_new (o := .frz o (.dK kvs)) cp
    have dd : Da X.w (upd C a (.frz o (.dK kvs))) (.ref a) (dkD es) := .dic upd_same hk (hd.mono sD)
    have R2 := (R1.adopt f1 upd_same).setVal (i := i) dd
    have li : i < σ.length := by
      obtain ⟨z, _⟩ := List.getElem?_eq_some_iff.mp hv; exact z
    have es' : σ.set i (some (.ref a)) = σ := by
      apply List.ext_getElem?
      intro j
      by_cases hj : i = j
      · subst hj; rw [List.getElem?_set_self li, hv]
      · rw [List.getElem?_set_ne hj]
    rw [es', List.set_set] at R2
    exact q _ _ _ _ _ k sD R2 dd
  · exact k.elim
/-! ### d.get(k) -/
def qGet1 (qa qb : QE) : QE := fun ρ κ => qa ρ fun d ρ1 => match d with
  | .dict kvs => txK kvs = true ∧ qb ρ1 fun x ρ2 => match keyOf x with
    | some k => κ ((getD kvs k).getD .none) ρ2
    | none => False
  | _ => False
theorem qe_get1 {o : Expr} {qa qb : QE} {apos cpos : Pos} (hu : X.A.units + 1 < cLine) (ho : PQ τ X o qa) (he : PQ τ X e qb) (m : M1 X o "get" apos e cpos) : PQ τ X (.Call (.Attribute o "get" apos) [e] [] cpos) (qGet1 qa qb) := by
  refine pe_imp _ (pe_dget1 hu ho he m) ?_
  rintro σ H Q ⟨F, ρ, C, R, κ, k, z⟩
  refine ⟨F, ρ, C, R, _, k, fun d ρ1 v C1 H1 k1 s1 R1 d1 => ?_⟩
  cases d1 with
  | @dic a ob kvs es er ek ea =>
    obtain ⟨k0, k1⟩ := k1
    refine ⟨a, rfl, .inl ⟨kvs, .inr ⟨ob, R1.sub _ _ er⟩⟩, F, ρ1, C1, R1, _, k1, fun x ρ2 y C2 H2 k2 s2 R2 d2 => ?_⟩
    split at k2
    · rename_i kk hk
      rw [getD_map] at k2
      obtain ⟨g1, g2⟩ := get_v (k := kk) ek (ea.mono s2)
      refine ⟨valV kvs kk, .inl ⟨kvs, kk, .inr ⟨ob, R2.sub _ _ (s2 _ _ er)⟩, key_v d2 hk, rfl⟩, ?_⟩
      cases hg : getK es kk with
      | none => rw [hg] at k2; rw [g2 hg]; exact z _ _ _ _ _ k2 (same_trans s1 s2) R2 .non
      | some w =>
        rw [hg] at k2
        obtain ⟨v, hv, dv⟩ := g1 w hg
        rw [hv]; exact z _ _ _ _ _ k2 (same_trans s1 s2) R2 dv
    · exact False.elim k2
  | @dicT a o u zs rds e dt ks ek ne ha =>
    cases rds with
    | nil => exact absurd rfl ne
    | cons r rds => simp only [List.map_cons, txK] at k1; exact absurd k1.1 Bool.false_ne_true
  | _ => exact False.elim k1
end
end L2.Pu

set_option Elab.async false
set_option linter.all false
set_option maxRecDepth 100000
set_option maxHeartbeats 4000000
/-! ## t[::-1] -/
namespace HT
open PySem PySem.Spec PyProof.Rows
section
variable {prog : Program} {w : World} {A : Around} {E : Value → Shared → Prop} {s : Shared}
theorem adjust_rev (n : Nat) : Builtin.Slice.sliceAdjust none none (-1) (n : Int) = ((n : Int) - 1, -1) := by
  unfold Builtin.Slice.sliceAdjust
  first
    | rfl
    | simp
theorem places_rev (n : Nat) : Builtin.Slice.slicePlaces ((n : Int) - 1) (-1) (-1) = n := by
  unfold Builtin.Slice.slicePlaces
  have h1 : ¬ ((-1 : Int) > 0) := by decide
  simp only [h1, if_false]
  by_cases h : (n : Int) - 1 > -1
  · simp only [h, if_true]
    rw [show (- -1 : Int) = 1 by decide, Int.ediv_one]
    omega
  · have e : n = 0 := by omega
    subst e
    simp
theorem sliceApplied_rev {sl : Addr} {vk : Value} {n : Nat} {Q : Int × Int × Nat → Shared → Prop} (hs : s.heap.IsSliceOf sl .none .none vk) (pk : IsPart vk (some (-1)))
    (h : Q ((n : Int) - 1, -1, n) s) : wpAny (model prog w) A (Builtin.Slice.sliceApplied (.ref sl) (pure (n : Int))) Q E s := by
  obtain ⟨os, hos, hcs, hds⟩ := id hs
  unfold Builtin.Slice.sliceApplied Builtin.Slice.sliceFields
  refine wpAny_bind (wpAny_bind (wpAny_field hos hds (x := .none) rfl (wpAny_bind (wpAny_field hos hds (x := .none) rfl (wpAny_bind (wpAny_field hos hds (x := vk) rfl (wpAny_pure ?_)))))))
  refine wpAny_bind (slicePart_ pk ?_)
  show wpAny _ _ (if ((-1 : Int) == 0) = true then _ else _) _ _ s
  rw [if_neg (by decide)]
  refine wpAny_bind (slicePart_none (wpAny_bind (slicePart_none (wpAny_bind (wpAny_pure ?_)))))
  show wpAny _ _ (match Builtin.Slice.sliceAdjust none none (-1) (n : Int) with | (lo, hi) => pure (lo, (-1 : Int), Builtin.Slice.slicePlaces lo hi (-1))) _ _ s
  rw [adjust_rev n]
  show wpAny _ _ (pure ((n : Int) - 1, (-1 : Int), Builtin.Slice.slicePlaces ((n : Int) - 1) (-1) (-1))) _ _ s
  rw [places_rev]
  exact wpAny_pure h
theorem pick_rev (xs : Array Value) : ((List.range xs.size).filterMap fun (m : Nat) => xs[((xs.size : Int) - 1 + (m : Int) * (-1)).toNat]?).toArray = xs.toList.reverse.toArray := by
  congr 1
  have e1 : ((List.range xs.size).filterMap fun (m : Nat) => xs[((xs.size : Int) - 1 + (m : Int) * (-1)).toNat]?) = ((List.range xs.size).map fun m => xs.size - 1 - m).filterMap (xs[·]?) := by
    rw [List.filterMap_map]
    have : (fun (m : Nat) => xs[((xs.size : Int) - 1 + (m : Int) * (-1)).toNat]?) = ((xs[·]?) ∘ fun m => xs.size - 1 - m) := by
      funext m
      have : ((xs.size : Int) - 1 + (m : Int) * (-1)).toNat = xs.size - 1 - m := by omega
      rw [this]; rfl
    rw [this]
  rw [e1, PySem.W.krv_range, List.filterMap_reverse, PySem.W.krv_all]
theorem getItem_tuple_rev {t sl : Addr} {items : Array Value} {vk : Value} {Q : Value → Shared → Prop} (ht : IsTup s.heap t items) (hs : s.heap.IsSliceOf sl .none .none vk) (pk : IsPart vk (some (-1)))
    (h : Q (.ref s.heap.objs.size) { s with heap := s.heap.push { cls := .type "tuple", data := .seq items.toList.reverse.toArray } })
    (hsz : items.size ≤ sizeLine) : wpAny (model prog w) A (getItem (.ref t) (.ref sl)) Q E s := by
  have htake : sizeOk (.seq items.toList.reverse.toArray) := by
    show items.toList.reverse.toArray.size ≤ sizeLine
    rw [List.size_toArray, List.length_reverse, Array.length_toList]
    omega
  obtain ⟨os, hos, hcs, hds⟩ := id hs
  have hTs : s.TypeIs (.ref sl) "slice" := ⟨os, hos, hcs⟩
  unfold getItem
  try with_reducible refine wpAny_holding ?_
  first | refine wpAny_bind (wpAny_pure ?_) | skip
  refine wpAny_bind (wpAny_sequenceKey ht.typeIs (by decide) ?_)
  refine wpAny_bind (wpAny_callSpecial?_slot (name := Str.ofString "__getitem__") ht.typeIs PyProof.Rows.slot_tuple_getitem
    (wpAny_call_entry PyProof.Rows.slot_tuple_getitem ht.typeIs entry_tuple_getitem ?_ (args_tuple_getitem _ _)))
  show wpAny _ _ (Builtin.Tuple.tupleItemsOf (.ref t) >>= _) _ _ s
  refine wpAny_bind (tupleItemsOf_ ht ?_)
  refine wpAny_bind (wpAny_typeOf hTs ?_)
  rw [if_pos (by decide)]
  refine wpAny_bind (sliceApplied_rev hs pk ?_)
  show wpAny _ _ (if (((items.size : Int) - 1) == 0 && (-1 : Int) == 1 && items.size == items.size) = true then _ else _) _ _ s
  rw [if_neg (by intro q; rw [Bool.and_eq_true, Bool.and_eq_true] at q; exact absurd q.1.2 (by decide)), pick_rev]
  first
    | exact wpAny_bind (m := Builtin.Tuple.tupleExact _) (wpAny_newObj_type (wpAny_pure ⟨_, rfl, wpAny_pure h⟩) htake)
    | exact wpAny_bind (m := Builtin.Tuple.tupleExact _) (wpAny_newObj_type (wpAny_bind (wpAny_pure (wpAny_pure ⟨_, rfl, wpAny_pure h⟩))) htake)
    | exact wpAny_bind (wpAny_bind (m := Builtin.Tuple.tupleExact _) (wpAny_newObj_type (wpAny_pure (wpAny_pure ⟨_, rfl, wpAny_pure h⟩)) htake))
    | exact wpAny_bind (wpAny_bind (m := Builtin.Tuple.tupleExact _) (wpAny_newObj_type (wpAny_pure ⟨_, rfl, wpAny_pure h⟩) htake))
end
end HT
namespace L2.Pu
open PySem PySem.Spec PyProof.Rows
section
variable {X : Cx} {τ : Tb} {e stp : Expr} {pos p2 : Pos} {te tk : TE} {qa qk : QE}
theorem vals_reverse : ∀ {xs : List V} {us : List Value}, Vals xs us → Vals xs.reverse us.reverse := fun r => r.reverse
def tRev (K : PySem.W.Frag) (te tk : TE) : TE := fun σ H Q => te σ H fun x H1 => tk σ H1 fun k H2 => k = .int (-1) ∧ ∃ a xs, x = .ref a ∧ SqT K H2 a xs ∧ ∀ l o, H2 l = none → Fine o xs.reverse → Q (.ref l) (upd H2 l o)
theorem pe_rev (he : PE X e te) (hk : PE X stp tk) : PE X (.Subscript e (.Slice none none (some stp) p2) pos) (tRev X.K te tk) := by
  refine ⟨fun pins s σ H Q I h => ?_⟩
  refine Subscript_ (thn (he.run pins s σ H _ I h) fun v s1 ⟨x, H1, I1, r1, q1⟩ => ?_)
  refine wpAny_Slice ?_
  rw [evalPart_none]
  refine wpAny_pure (wpAny_pure ?_)
  rw [evalPart_some]
  refine thn (hk.run pins s1 σ H1 _ I1 q1) fun vk s3 ⟨k, H3, I3, pk, ek, a, xs, ex, sq, q3⟩ => ?_
  subst ek ex
  obtain ⟨t, rfl⟩ := pk
  have I4 : Inv X pins σ H3 { s3 with heap := s3.heap.push { cls := .type "slice", data := .fields #[.none, .none, .int (-1) t] } } := I3.kept (t' := s3.toks) fun b ob q => Heap.get?_push_of_some _ q
  cases r1
  obtain ⟨us, rs, it, zl⟩ := I4.tuple sq
  have ln : us.toArray.size = xs.length := by rw [List.size_toArray]; exact rs.length.symm
  show wpAny (model X.prog X.w) X.A (subscriptTail e (.Slice none none (some stp) p2) (.ref a) (.ref s3.heap.objs.size)) (EP X pins σ Q) X.xe { s3 with heap := s3.heap.push { cls := .type "slice", data := .fields #[.none, .none, .int (-1) t] } }
  refine tail_any (ops := [.ref a, .ref s3.heap.objs.size]) it.typeIs PyProof.Rows.slot_tuple_getitem.lookup (HT.getItem_tuple_rev it (Heap.IsSliceOf.new ..) (.int _ _) ?_ (by rw [ln]; exact zl)) (by with_unfolding_all rfl)
  exact ⟨.ref _, _, I4.laid (t' := s3.toks) (fun b ob e => Heap.get?_push_of_some _ e) (Nat.le_refl _)
      (tup_new (by rw [List.length_reverse]; exact zl) (vals_reverse rs)), rfl, q3 _ _ (I4.hok.fresh (Nat.le_refl _)) ⟨_, rfl, rfl⟩⟩
def qRev (qa qk : QE) : QE := fun ρ κ => qa ρ fun d ρ1 => qk ρ1 fun k ρ2 => k = .int (-1) ∧ match d with
  | .tuple ds => κ (.tuple ds.reverse) ρ2
  | _ => False
theorem qe_rev (he : PQ τ X e qa) (hk : PQ τ X stp qk) : PQ τ X (.Subscript e (.Slice none none (some stp) p2) pos) (qRev qa qk) := by
  refine pe_imp _ (pe_rev he hk) ?_
  rintro σ H Q ⟨F, ρ, C, R, κ, k, z⟩
  refine ⟨F, ρ, C, R, _, k, fun d ρ1 v C1 H1 k1 s1 R1 d1 => ⟨F, ρ1, C1, R1, _, k1, fun kk ρ2 vk C2 H2 k2 s2 R2 d2 => ?_⟩⟩
  obtain ⟨rfl, k2⟩ := k2
  have d1' := d1.mono s2
  cases d2
  refine ⟨rfl, ?_⟩
  cases d1' with
  | @tup a o xs ds eb nb ha =>
    refine ⟨a, xs, rfl, sqF (R2.sub _ _ eb), fun l u nl fo => ?_⟩
    obtain ⟨ob, rfl, hd⟩ := fo
    have sl := same_new (o := .frz ob (.tup xs.reverse)) (sub_none R2.sub nl)
    exact z _ _ _ _ _ k2 (same_trans s1 (same_trans s2 sl)) (R2.lay nl) (.tup upd_same hd (ha.reverse.mono sl))
  | _ => exact False.elim k2
end
end L2.Pu

set_option Elab.async false
set_option linter.all false
set_option maxRecDepth 100000
set_option maxHeartbeats 4000000
/-! ## [e for x in xs if .. for y in ys if ..] -/
namespace L2.Pu
open PySem PySem.Spec PyProof.Rows
/-- the turns of the inner clause: what is walked, what is made so far -/
def lcB (g : QG) (tt : QT) (te : QE) (vs : List Nat) (κ : List PyData → Ro → Prop) : List PyData → List PyData → Ro → Prop
  | [], acc, ρ => κ acc ρ
  | d :: ds, acc, ρ => ∃ N : List PyData → Ro → Prop, (∀ acc' ρ', N acc' ρ' → lcB g tt te vs κ ds acc' ρ') ∧ g d ρ fun ρ1 => tt ρ1 fun b ρ2 => yn b (te ρ2 fun y ρ3 => acc.length < 16000000 ∧ N (acc ++ [y]) (wipeR ρ3 vs)) (N acc (wipeR ρ2 vs))
def lc2L (g : QG) (tt : QT) (qi1 : QI) (g1 : QG) (tt1 : QT) (te : QE) (vs vs1 : List Nat) (κ : List PyData → Ro → Prop) : List PyData → List PyData → Ro → Prop
  | [], acc, ρ => κ acc ρ
  | d :: ds, acc, ρ => ∃ N : List PyData → Ro → Prop, (∀ acc' ρ', N acc' ρ' → lc2L g tt qi1 g1 tt1 te vs vs1 κ ds acc' ρ') ∧ g d ρ fun ρ1 => tt ρ1 fun b ρ2 => yn b (qi1 ρ2 fun ds1 ρ3 => lcB g1 tt1 te vs1 (fun acc' ρ4 => N acc' (wipeR ρ4 vs)) ds1 acc (wipeR ρ3 vs1)) (N acc (wipeR ρ2 vs))
def qfLc2 (qi : QI) (g : QG) (tt : QT) (qi1 : QI) (g1 : QG) (tt1 : QT) (te : QE) (vs vs1 : List Nat) : QF := fun ρ κ => qi ρ fun ds ρ1 => lc2L g tt qi1 g1 tt1 te vs vs1 (fun acc ρ2 => κ (.lst acc) (backR ρ1 ρ2 vs)) ds [] (wipeR ρ1 vs)
theorem wipe_wipe {σ : St} {vs : List Nat} : ∀ us : List Nat, (∀ u ∈ us, u ∈ vs) → wipe (wipe σ us) vs = wipe σ vs := by
  intro us
  induction us with
  | nil => intro _; rfl
  | cons u us ih =>
    intro h
    show wipe ((wipe σ us).set u none) vs = _
    rw [wipe_set (h u List.mem_cons_self), ih fun w hw => h w (List.mem_cons_of_mem _ hw)]
theorem lc2_imp {T : PK} {qi : QI} {g : QG} {tt : QT} {qi1 : QI} {g1 : QG} {tt1 : QT} {te : QE} {vs vs1 : List Nat} (hv : ∀ i ∈ vs1, i ∈ vs) : ∀ σ H Q, liftF T (qfLc2 qi g tt qi1 g1 tt1 te vs vs1) σ H Q → tLc2 (liftI T qi) (liftGv T vs g) (liftT T tt) (liftI T qi1) (liftGv T vs1 g1) (liftT T tt1) (liftE T te) vs vs1 σ H Q := by
  rintro σ H Q ⟨F, ρ, C, R, κ, k, z⟩
  refine ⟨F, ρ, C, R, _, k, fun ds ρ1 C1 H1 J k1 s1 R1 wk D hD => ?_⟩
  refine ⟨fun i m H => m + i = ds.length ∧ ∃ ρ2 C2 av acc, Same C1 C2 ∧ Rep T F ρ2 C2 (wipe σ vs) H ∧ H D = some (.lst av) ∧ DaAll T.w C2 av acc ∧ Fresh F ρ2 C2 (wipe σ vs) D ∧ lc2L g tt qi1 g1 tt1 te vs vs1 (fun acc ρ2 => κ (.lst acc) (backR ρ1 ρ2 vs)) (ds.drop i) acc ρ2,
    ⟨ds.length, rfl, wipeR ρ1 vs, C1, [], [], same_refl _, (R1.layH hD).wipe vs, upd_same, .nil, (R1.new_fresh hD).mono_wipe, k1⟩, ?_⟩
  have hr := R1.ref_ne hD
  have c0 := R1.c0_none (sub_none R1.sub hD)
  rintro i m H2 ⟨hm, ρ2, C2, av, acc, s2, R2, e2, d2, f2, k2⟩
  by_cases lt : i < ds.length
  · have hd : ds.drop i = ds[i] :: ds.drop (i + 1) := List.drop_eq_getElem_cons lt
    rw [hd] at k2
    obtain ⟨N, hN, k2⟩ := k2
    refine .inr ⟨wk.go i C2 H2 s2 R2.sub lt, fun H' => ∃ ρ3 C3 av acc, Same C1 C3 ∧ Rep T F ρ3 C3 (wipe σ vs) H' ∧ H' D = some (.lst av) ∧ DaAll T.w C3 av acc ∧ Fresh F ρ3 C3 (wipe σ vs) D ∧ N acc ρ3, ?_, ?_⟩
    · rintro H' ⟨ρ3, C3, av3, acc3, s3, R3, e3, d3, f3, n3⟩
      exact ⟨m - 1, by omega, by omega, ρ3, C3, av3, acc3, s3, R3, e3, d3, f3, hN _ _ n3⟩
    · intro x H3 hy
      have Rg := R2.guard f2 e2
      obtain ⟨d, C3, hd1, s3, R3, hd2⟩ := wk.yld i _ ρ2 C2 _ H2 x H3 Rg s2 hy lt
      have : ds[i] = d := by rw [List.getElem?_eq_getElem lt] at hd1; exact Option.some.inj hd1
      rw [this] at k2
      have nt : ∀ av : List V, ∀ xs, HO.lst av ≠ .tup xs := fun av xs e => nomatch e
      have no : ∀ av : List V, NoTb (HO.lst av) := fun av xs e => nomatch e
      refine ⟨_, ρ2, C3, d, R3, hd2, _, k2, fun ρ4 C4 σ4 H4 k4 s4 R4 w4 => ⟨w4.trans (wipe_wipe vs fun _ h => h), _, ρ4, C4, R4, _, k4, fun b ρ5 C5 H5 k5 s5 R5 => ?_⟩⟩
      have w4' : wipe σ4 vs = wipe σ vs := w4.trans (wipe_wipe vs fun _ h => h)
      have s35 := same_trans s3 (same_trans s4 s5)
      have s15 := same_trans s2 s35
      cases b with
      | false =>
        obtain ⟨R6, e6, f6⟩ := R5.unguard (nt av) (no av) f2.start c0 hr
        exact ⟨wipeR ρ5 vs, C5, av, acc, s15, by rw [← w4']; exact R6.wipe vs, e6, d2.mono s35, by rw [← w4']; exact f6.mono_wipe, k5⟩
      | true =>
        refine ⟨_, ρ5, C5, R5, _, k5, fun ds1 ρ6 C6 H6 J1 k6 s6 R6 wk1 => ?_⟩
        obtain ⟨R7, e7, f7⟩ := R6.unguard (nt av) (no av) f2.start c0 hr
        refine ⟨fun j k H => k + j = ds1.length ∧ ∃ ρ8 C8 av acc, Same C6 C8 ∧ Rep T F ρ8 C8 (wipe σ4 vs1) H ∧ H D = some (.lst av) ∧ DaAll T.w C8 av acc ∧ Fresh F ρ8 C8 (wipe σ4 vs1) D ∧ lcB g1 tt1 te vs1 (fun acc' ρ4 => N acc' (wipeR ρ4 vs)) (ds1.drop j) acc ρ8,
          ⟨ds1.length, rfl, wipeR ρ6 vs1, C6, av, acc, same_refl _, R7.wipe vs1, e7, d2.mono (same_trans s35 s6), f7.mono_wipe, k6⟩, ?_⟩
        rintro j n H8 ⟨hn, ρ8, C8, av8, acc8, s8, R8, e8, d8, f8, k8⟩
        have s18 := same_trans s15 (same_trans s6 s8)
        by_cases lt1 : j < ds1.length
        · have hd1 : ds1.drop j = ds1[j] :: ds1.drop (j + 1) := List.drop_eq_getElem_cons lt1
          rw [hd1] at k8
          obtain ⟨N1, hN1, k8⟩ := k8
          refine .inr ⟨wk1.go j C8 H8 s8 R8.sub lt1, fun H' => ∃ ρ9 C9 av acc, Same C6 C9 ∧ Rep T F ρ9 C9 (wipe σ4 vs1) H' ∧ H' D = some (.lst av) ∧ DaAll T.w C9 av acc ∧ Fresh F ρ9 C9 (wipe σ4 vs1) D ∧ N1 acc ρ9, ?_, ?_⟩
          · rintro H' ⟨ρ9, C9, av9, acc9, s9, R9, e9, d9, f9, n9⟩
            exact ⟨n - 1, by omega, by omega, ρ9, C9, av9, acc9, s9, R9, e9, d9, f9, hN1 _ _ n9⟩
          · intro x H9 hy1
            have Rg8 := R8.guard f8 e8
            obtain ⟨d', C9, hd3, s9, R9, hd4⟩ := wk1.yld j _ ρ8 C8 _ H8 x H9 Rg8 s8 hy1 lt1
            have : ds1[j] = d' := by rw [List.getElem?_eq_getElem lt1] at hd3; exact Option.some.inj hd3
            rw [this] at k8
            refine ⟨_, ρ8, C9, d', R9, hd4, _, k8, fun ρa Ca σa Ha ka sa Ra wa => ⟨wa.trans (wipe_wipe vs1 fun _ h => h), _, ρa, Ca, Ra, _, ka, fun b ρb Cb Hb kb sb Rb => ?_⟩⟩
            have wa' : wipe σa vs1 = wipe σ4 vs1 := wa.trans (wipe_wipe vs1 fun _ h => h)
            have s8b := same_trans s9 (same_trans sa sb)
            cases b with
            | false =>
              obtain ⟨Rc, ec, fc⟩ := Rb.unguard (nt av8) (no av8) f8.start c0 hr
              exact ⟨wipeR ρb vs1, Cb, av8, acc8, same_trans s8 s8b, by rw [← wa']; exact Rc.wipe vs1, ec, d8.mono s8b, by rw [← wa']; exact fc.mono_wipe, kb⟩
            | true =>
              refine ⟨_, ρb, Cb, Rb, _, kb, fun y ρc v Cc Hc kc sc Rc dc => ?_⟩
              obtain ⟨lim, kc⟩ := kc
              obtain ⟨Rd, ed, fd⟩ := Rc.unguard (nt av8) (no av8) f8.start c0 hr
              refine ⟨av8, ed, by rw [d8.length]; exact Nat.lt_of_lt_of_le lim (by rw [sizeLine_eq]; decide), wipeR ρc vs1, Cc, av8 ++ [v], acc8 ++ [y], same_trans s8 (same_trans s8b sc), ?_, upd_same, (d8.mono (same_trans s8b sc)).snoc dc, by rw [← wa']; exact fd.mono_wipe, kc⟩
              rw [← wa']; exact (Rd.writeF fd hr ⟨fun _ z => (by rw [ed] at z; cases z), fun _ z => (by rw [ed] at z; cases z)⟩ _).wipe vs1
        · refine .inl ⟨wk1.stop j C8 H8 s8 R8.sub (by omega), ?_⟩
          rw [List.drop_eq_nil_of_le (by omega)] at k8
          have ww : wipe (wipe σ4 vs1) vs = wipe σ vs := (wipe_wipe vs1 hv).trans w4'
          refine ⟨wipeR ρ8 vs, C8, av8, acc8, s18, by rw [← ww]; exact R8.wipe vs, e8, d8, by rw [← ww]; exact f8.mono_wipe, k8⟩
  · refine .inl ⟨wk.stop i C2 H2 s2 R2.sub (by omega), ?_⟩
    rw [List.drop_eq_nil_of_le (by omega)] at k2
    have Rb := Rep.back R1 s2 R2
    refine z _ _ _ _ _ k2 (same_trans s1 s2) Rb ⟨av, e2, d2⟩ ⟨f2.core, f2.start, fun j r o hj hv => ?_⟩ hr
    rcases backR_get hj with ⟨_, e | ⟨_, e, _⟩⟩ | ⟨a, b⟩
    · cases e
    · cases e
    · exact f2.owned j r o b (by rw [wipe_get a]; exact hv)
section
variable {X : Cx} {τ : Tb} {pos : Pos} {elt tg iter tg1 iter1 : Expr} {ifs ifs1 : List Expr} {scope : Scope} {own : List (Str × Nat)} {vs1 : List Nat} {qi qi1 : QI} {g g1 : QG} {tt tt1 : QT} {te : QE}
theorem qf_lc2 (hc : X.calm = true) (hN : X.N.Nodup) (hi : PQI τ X tg iter qi) (ok : BlkOk X.N X.env.scope scope own) (hv : ∀ i ∈ vs1, i ∈ own.map (·.2))
    (hg : ∀ (s : Shared) (H : Hp) (C : Addr) (cl : List (Str × Addr)) (fp : List Addr), PQGv τ (X.blk s H scope (compEnvC scope cl C X.env) fp) (own.map (·.2)) tg g) (ht : ∀ (s : Shared) (H : Hp) (C : Addr) (cl : List (Str × Addr)) (fp : List Addr), PQTs τ (X.blk s H scope (compEnvC scope cl C X.env) fp) ifs tt)
    (hi1 : ∀ (s : Shared) (H : Hp) (C : Addr) (cl : List (Str × Addr)) (fp : List Addr), PQI τ (X.blk s H scope (compEnvC scope cl C X.env) fp) tg1 iter1 qi1)
    (hg1 : ∀ (s : Shared) (H : Hp) (C : Addr) (cl : List (Str × Addr)) (fp : List Addr), PQGv τ (X.blk s H scope (compEnvC scope cl C X.env) fp) vs1 tg1 g1) (ht1 : ∀ (s : Shared) (H : Hp) (C : Addr) (cl : List (Str × Addr)) (fp : List Addr), PQTs τ (X.blk s H scope (compEnvC scope cl C X.env) fp) ifs1 tt1)
    (he : ∀ (s : Shared) (H : Hp) (C : Addr) (cl : List (Str × Addr)) (fp : List Addr), PQ τ (X.blk s H scope (compEnvC scope cl C X.env) fp) elt te) (hs : ∀ x, foldedSetIterable iter X.env x = pure x := by intro _; rfl) (hs1 : ∀ env x, foldedSetIterable iter1 env x = pure x := by intro _ _; rfl) :
    PQF τ X (.ListComp elt [⟨tg, iter, ifs, 0⟩, ⟨tg1, iter1, ifs1, 0⟩] scope pos) (qfLc2 qi g tt qi1 g1 tt1 te (own.map (·.2)) vs1) := pe_imp _ (pe_lc2 (wi := liftI (X.pk τ) qi) (g := liftGv (X.pk τ) (own.map (·.2)) g) (tt := liftT (X.pk τ) tt) (wi1 := liftI (X.pk τ) qi1) (g1 := liftGv (X.pk τ) vs1 g1) (tt1 := liftT (X.pk τ) tt1) (te := liftE (X.pk τ) te) hc hN hi ok hv hg ht hi1 hg1 ht1 he hs hs1) (lc2_imp hv)
variable {i : Nat} {y : Str} {py spos : Pos}
theorem qs_setLc2O (hc : X.calm = true) (hN : X.N.Nodup) (hy : X.N[i]? = some y) (hyl : X.env.scope.names.lookup y = some .local)
    (hsw : swapsWith (.ListComp elt [⟨tg, iter, ifs, 0⟩, ⟨tg1, iter1, ifs1, 0⟩] scope pos) (some (.Name y py)) spos.line X.env = pure true) (hi : PQI τ X tg iter qi) (ok : BlkOk X.N X.env.scope scope own) (hv : ∀ i ∈ vs1, i ∈ own.map (·.2))
    (hg : ∀ (s : Shared) (H : Hp) (C : Addr) (cl : List (Str × Addr)) (fp : List Addr), PQGv τ (X.blk s H scope (compEnvC scope cl C X.env) fp) (own.map (·.2)) tg g) (ht : ∀ (s : Shared) (H : Hp) (C : Addr) (cl : List (Str × Addr)) (fp : List Addr), PQTs τ (X.blk s H scope (compEnvC scope cl C X.env) fp) ifs tt)
    (hi1 : ∀ (s : Shared) (H : Hp) (C : Addr) (cl : List (Str × Addr)) (fp : List Addr), PQI τ (X.blk s H scope (compEnvC scope cl C X.env) fp) tg1 iter1 qi1)
    (hg1 : ∀ (s : Shared) (H : Hp) (C : Addr) (cl : List (Str × Addr)) (fp : List Addr), PQGv τ (X.blk s H scope (compEnvC scope cl C X.env) fp) vs1 tg1 g1) (ht1 : ∀ (s : Shared) (H : Hp) (C : Addr) (cl : List (Str × Addr)) (fp : List Addr), PQTs τ (X.blk s H scope (compEnvC scope cl C X.env) fp) ifs1 tt1)
    (he : ∀ (s : Shared) (H : Hp) (C : Addr) (cl : List (Str × Addr)) (fp : List Addr), PQ τ (X.blk s H scope (compEnvC scope cl C X.env) fp) elt te) (hs : ∀ x, foldedSetIterable iter X.env x = pure x := by intro _; rfl) (hs1 : ∀ env x, foldedSetIterable iter1 env x = pure x := by intro _ _; rfl) :
    PQS τ X (.Assign [.Name y py] (.ListComp elt [⟨tg, iter, ifs, 0⟩, ⟨tg1, iter1, ifs1, 0⟩] scope pos) spos) (qSetO i (qfLc2 qi g tt qi1 g1 tt1 te (own.map (·.2)) vs1)) := by
  refine ps_imp _ (ps_setLc2 (wi := liftI (X.pk τ) qi) (g := liftGv (X.pk τ) (own.map (·.2)) g) (tt := liftT (X.pk τ) tt) (wi1 := liftI (X.pk τ) qi1) (g1 := liftGv (X.pk τ) vs1 g1) (tt1 := liftT (X.pk τ) tt1) (te := liftE (X.pk τ) te) hc hN hy hyl hsw hi ok hv hg ht hi1 hg1 ht1 he hs hs1) fun D σ H h => ?_
  exact lc2_imp hv _ _ _ (setO_imp (X := X) D σ H h)
theorem qs_setLc2 (hc : X.calm = true) (hN : X.N.Nodup) (hy : X.N[i]? = some y) (hyl : X.env.scope.names.lookup y = some .local)
    (hsw : swapsWith (.ListComp elt [⟨tg, iter, ifs, 0⟩, ⟨tg1, iter1, ifs1, 0⟩] scope pos) (some (.Name y py)) spos.line X.env = pure true) (hi : PQI τ X tg iter qi) (ok : BlkOk X.N X.env.scope scope own) (hv : ∀ i ∈ vs1, i ∈ own.map (·.2))
    (hg : ∀ (s : Shared) (H : Hp) (C : Addr) (cl : List (Str × Addr)) (fp : List Addr), PQGv τ (X.blk s H scope (compEnvC scope cl C X.env) fp) (own.map (·.2)) tg g) (ht : ∀ (s : Shared) (H : Hp) (C : Addr) (cl : List (Str × Addr)) (fp : List Addr), PQTs τ (X.blk s H scope (compEnvC scope cl C X.env) fp) ifs tt)
    (hi1 : ∀ (s : Shared) (H : Hp) (C : Addr) (cl : List (Str × Addr)) (fp : List Addr), PQI τ (X.blk s H scope (compEnvC scope cl C X.env) fp) tg1 iter1 qi1)
    (hg1 : ∀ (s : Shared) (H : Hp) (C : Addr) (cl : List (Str × Addr)) (fp : List Addr), PQGv τ (X.blk s H scope (compEnvC scope cl C X.env) fp) vs1 tg1 g1) (ht1 : ∀ (s : Shared) (H : Hp) (C : Addr) (cl : List (Str × Addr)) (fp : List Addr), PQTs τ (X.blk s H scope (compEnvC scope cl C X.env) fp) ifs1 tt1)
    (he : ∀ (s : Shared) (H : Hp) (C : Addr) (cl : List (Str × Addr)) (fp : List Addr), PQ τ (X.blk s H scope (compEnvC scope cl C X.env) fp) elt te) (hs : ∀ x, foldedSetIterable iter X.env x = pure x := by intro _; rfl) (hs1 : ∀ env x, foldedSetIterable iter1 env x = pure x := by intro _ _; rfl) :
    PQS τ X (.Assign [.Name y py] (.ListComp elt [⟨tg, iter, ifs, 0⟩, ⟨tg1, iter1, ifs1, 0⟩] scope pos) spos) (qSet i (qOf (qfLc2 qi g tt qi1 g1 tt1 te (own.map (·.2)) vs1))) := by
  refine ps_imp _ (ps_setLc2 (wi := liftI (X.pk τ) qi) (g := liftGv (X.pk τ) (own.map (·.2)) g) (tt := liftT (X.pk τ) tt) (wi1 := liftI (X.pk τ) qi1) (g1 := liftGv (X.pk τ) vs1 g1) (tt1 := liftT (X.pk τ) tt1) (te := liftE (X.pk τ) te) hc hN hy hyl hsw hi ok hv hg ht hi1 hg1 ht1 he hs hs1) fun D σ H h => ?_
  exact of_imp (lc2_imp hv) _ _ _ (set_imp (X := X) D σ H h)
end
/-- pure turns: a turn tells what it adds, and leaves the state as it was -/
theorem lcB_gen {g : QG} {tt : QT} {te : QE} {vs : List Nat} {κ : List PyData → Ro → Prop} {ρ : Ro} (f : PyData → Option PyData) : ∀ (ds acc : List PyData), acc.length + ds.length ≤ 16000000 →
    (∀ d ∈ ds, ∀ K : Option PyData → Ro → Prop, K (f d) ρ → g d ρ fun ρ1 => tt ρ1 fun b ρ2 => yn b (te ρ2 fun y ρ3 => K (some y) (wipeR ρ3 vs)) (K none (wipeR ρ2 vs))) → κ (acc ++ ds.filterMap f) ρ → lcB g tt te vs κ ds acc ρ
  | [], acc, _, _, k => by rw [List.filterMap_nil, List.append_nil] at k; exact k
  | d :: ds, acc, hl, h, k => by
    rw [List.length_cons] at hl
    let K : Option PyData → Ro → Prop := fun o ρ' => match o with
      | some y => acc.length < 16000000 ∧ (acc ++ [y] = acc ++ (f d).toList ∧ ρ' = ρ)
      | none => acc = acc ++ (f d).toList ∧ ρ' = ρ
    refine ⟨fun acc' ρ' => acc' = acc ++ (f d).toList ∧ ρ' = ρ, fun acc' ρ' h' => ?_, ?_⟩
    · obtain ⟨rfl, rfl⟩ := h'
      refine lcB_gen f ds _ ?_ (fun d hd => h d (List.mem_cons_of_mem _ hd)) ?_
      · rw [List.length_append]
        cases f d with
        | none => show acc.length + 0 + _ ≤ _; omega
        | some y => show acc.length + 1 + _ ≤ _; omega
      · rw [List.filterMap_cons] at k
        rw [List.append_assoc]
        cases hf : f d with
        | none => rw [hf] at k; exact k
        | some y => rw [hf] at k; exact k
    · refine h d List.mem_cons_self K ?_
      show K (f d) ρ
      cases hf : f d with
      | none => show acc = acc ++ (f d).toList ∧ ρ = ρ; rw [hf]; exact ⟨(List.append_nil _).symm, rfl⟩
      | some y => show acc.length < 16000000 ∧ (acc ++ [y] = acc ++ (f d).toList ∧ ρ = ρ); rw [hf]; exact ⟨by omega, rfl, rfl⟩
theorem lc2L_gen {g : QG} {tt : QT} {qi1 : QI} {g1 : QG} {tt1 : QT} {te : QE} {vs vs1 : List Nat} {κ : List PyData → Ro → Prop} {ρ : Ro} (f : PyData → List PyData) (m : Nat) : ∀ (ds acc : List PyData), (∀ d ∈ ds, (f d).length ≤ m) → acc.length + m * ds.length ≤ 16000000 →
    (∀ d ∈ ds, ∀ (acc : List PyData) (K : List PyData → Ro → Prop), acc.length + m ≤ 16000000 → K (acc ++ f d) ρ → g d ρ fun ρ1 => tt ρ1 fun b ρ2 => yn b (qi1 ρ2 fun ds1 ρ3 => lcB g1 tt1 te vs1 (fun acc' ρ4 => K acc' (wipeR ρ4 vs)) ds1 acc (wipeR ρ3 vs1)) (K acc (wipeR ρ2 vs))) →
    κ (acc ++ ds.flatMap f) ρ → lc2L g tt qi1 g1 tt1 te vs vs1 κ ds acc ρ
  | [], acc, _, _, _, k => by rw [List.flatMap_nil, List.append_nil] at k; exact k
  | d :: ds, acc, hf, hl, h, k => by
    rw [List.length_cons, Nat.mul_succ] at hl
    refine ⟨fun acc' ρ' => acc' = acc ++ f d ∧ ρ' = ρ, fun acc' ρ' h' => ?_, ?_⟩
    · obtain ⟨rfl, rfl⟩ := h'
      have := hf d List.mem_cons_self
      refine lc2L_gen f m ds _ (fun d hd => hf d (List.mem_cons_of_mem _ hd)) (by rw [List.length_append]; omega) (fun d hd => h d (List.mem_cons_of_mem _ hd)) ?_
      rw [List.append_assoc]; rw [List.flatMap_cons] at k; exact k
    · exact h d List.mem_cons_self acc (fun acc' ρ' => acc' = acc ++ f d ∧ ρ' = ρ) (by omega) ⟨rfl, rfl⟩
end L2.Pu

set_option Elab.async false
set_option linter.all false
set_option maxRecDepth 100000
set_option maxHeartbeats 4000000
namespace L2.Pu
open PySem PySem.Spec PyProof.Rows
theorem ru0 {k : Nat} {A : Around} (r : Room k A) : A.units < cLine := by have := r.un; omega
theorem ru2 {k : Nat} {A : Around} (r : Room k A) : A.units + 2 < cLine := by have := r.un; omega
def strsL (l : List Str) : PyData := .list (l.map PyData.str)
theorem shp_strsL {r : List Str} (h : okS r) : Shp (strsL r) := by
  show SeqAt.shaped (strsL r) = true
  unfold SeqAt.shaped strsL
  rw [Bool.and_eq_true]
  refine ⟨?_, ?_⟩
  · rw [PyData.canLay0]; exact lay_strs h
  · simp only [PyData.depth, depth_strs]; decide
theorem eqv_strsL (a b : List Str) : PyData.eqv (strsL a) (strsL b) = decide (a = b) := by unfold strsL; rw [PyData.eqv]; exact eqv_strs a b
/-! ### closed requests -/
theorem subsD_nodup (names : List Str) : names.Nodup → (subsD names).Nodup := by
  refine snoc_ind (p := fun names => names.Nodup → (subsD names).Nodup) (fun _ => by unfold subsD; exact List.nodup_cons.mpr ⟨List.not_mem_nil, List.nodup_nil⟩) (fun l x ih nd => ?_) names
  rw [List.nodup_append] at nd
  rw [subsD_snoc, List.nodup_append]
  refine ⟨ih nd.1, List.pairwise_map.mpr ((ih nd.1).imp fun ne e => ne (List.append_cancel_right e)), fun a ha b hb e => ?_⟩
  obtain ⟨r, _, rfl⟩ := List.mem_map.mp hb
  have s := (subsD_sub l a).mp ha
  have : x ∈ l := s.subset (by rw [e]; exact List.mem_append_right _ List.mem_cons_self)
  exact nd.2.2 x this x List.mem_cons_self rfl
theorem closedL_nodup {m : Man} (W : Wf m) : (closedL m).Nodup := by
  unfold closedL
  exact List.Pairwise.filter _ ((List.mergeSort_perm _ _).nodup_iff.mpr (subsD_nodup _ (asc_nodup W.asc)))
theorem closedL_ne {m : Man} (W : Wf m) : closedL m ≠ [] := List.ne_nil_of_mem (clo_closed W (fs := []) (fun _ z => nomatch z))
/-- what the step from c with x loses -/
noncomputable def stepG (m : Man) (is : Its) (c : List Str) (x : Str) : List (Str × Int) := goneL (viewL is c) (viewL is (clo m (c ++ [x])))
/-- a view as a dict -/
def seenE (v : List (Str × Int)) : List (Key × PyData) := v.map fun p => (.inr p.1, .int p.2)
def seenDk (v : List (Str × Int)) : PyData := dkD (seenE v)
theorem getK_seen {v : List (Str × Int)} (nd : (v.map (·.1)).Nodup) {p : Str × Int} (h : p ∈ v) : getK (seenE v) (.inr p.1) = some (.int p.2) := by
  induction v with
  | nil => cases h
  | cons q v ih =>
    rw [List.map_cons, List.nodup_cons] at nd
    unfold getK seenE at ih ⊢
    rw [List.map_cons, List.find?_cons]
    rcases List.mem_cons.mp h with rfl | h
    · rw [decide_eq_true rfl]; rfl
    · have : ¬ (Sum.inr q.1 : Key) = Sum.inr p.1 := fun e => nd.1 (by rw [Sum.inr.inj e]; exact List.mem_map.mpr ⟨p, h, rfl⟩)
      rw [decide_eq_false this]
      exact ih nd.2 h
theorem getK_unseen {v : List (Str × Int)} {x : Str} (h : x ∉ v.map (·.1)) : getK (seenE v) (.inr x) = none := by
  unfold getK seenE
  rw [Option.map_eq_none_iff, List.find?_eq_none]
  intro e he
  obtain ⟨p, hp, rfl⟩ := List.mem_map.mp he
  rw [decide_eq_true_iff]
  exact fun z => h (List.mem_map.mpr ⟨p, hp, Sum.inr.inj z⟩)
theorem view_names {is : Its} (S : List Str) : ((viewL is S).map (·.1)).Sublist (is.map (·.1)) := by
  induction is with
  | nil => exact List.Sublist.refl _
  | cons i is ih =>
    unfold viewL at ih ⊢
    rw [List.filterMap_cons]
    cases verOf S i.2 with
    | none => exact ih.cons _
    | some v => exact ih.cons₂ _
/-- the version of what is gone is another one, or none -/
theorem seen_ne {a b : List (Str × Int)} (na : (a.map (·.1)).Nodup) (nb : (b.map (·.1)).Nodup) {p : Str × Int} (h : p ∈ a) : (!PyData.eqv ((getK (seenE b) (.inr p.1)).getD .none) (.int p.2)) = !decide (p ∈ b) := by
  congr 1
  by_cases hx : p.1 ∈ b.map (·.1)
  · obtain ⟨q, hq, e⟩ := List.mem_map.mp hx
    rw [← e, getK_seen nb hq]
    show PyData.eqv (.int q.2) (.int p.2) = _
    rw [Bool.eq_iff_iff, decide_eq_true_iff]
    simp only [PyData.eqv]
    constructor
    · intro z
      have : q.2 = p.2 := by simpa using z
      rw [← Prod.ext e this]; exact hq
    · intro z
      have e2 : q = p := by
        have := getK_seen nb hq
        have h2 := getK_seen nb z
        rw [e, h2] at this
        injection this with this
        injection this with this
        exact Prod.ext e this.symm
      rw [e2]; simp
  · rw [getK_unseen hx]
    have : p ∉ b := fun z => hx (List.mem_map.mpr ⟨p, z, rfl⟩)
    rw [decide_eq_false this]
    rfl
theorem gone_names_asc {a b : List (Str × Int)} (h : (a.map (·.1)).Pairwise ltS) : ((goneL a b).map (·.1)).Pairwise ltS := h.sublist (List.filter_sublist.map _)
/-! ### tables -/
/-- a table of views as dicts -/
noncomputable def tabL (m : Man) (is : Its) : List (List Str × PyData) := (closedL m).map fun c => (c, seenDk (viewL is c))
/-- a table of views as tuples -/
noncomputable def tabV (m : Man) (is : Its) : List (List Str × PyData) := (closedL m).map fun c => (c, .tuple ((viewL is c).map prD))
theorem tabL_keys (m : Man) (is : Its) : (tabL m is).map (·.1) = closedL m := by unfold tabL; rw [List.map_map]; exact List.map_id _
theorem tabV_keys (m : Man) (is : Its) : (tabV m is).map (·.1) = closedL m := by unfold tabV; rw [List.map_map]; exact List.map_id _
theorem tabL_mem {m : Man} {is : Its} {c : List Str} (h : c ∈ closedL m) : (c, seenDk (viewL is c)) ∈ tabL m is := List.mem_map.mpr ⟨c, h, rfl⟩
theorem tabV_mem {m : Man} {is : Its} {c : List Str} (h : c ∈ closedL m) : (c, PyData.tuple ((viewL is c).map prD)) ∈ tabV m is := List.mem_map.mpr ⟨c, h, rfl⟩
theorem dtD_keys (rds : List (List Str × PyData)) : (rds.map fun e => (PyData.tuple (e.1.map PyData.str), e.2)).map (·.1) = (rds.map (·.1)).map tupS := by rw [List.map_map, List.map_map]; rfl
/-! ### the steps that break -/
def brD (b : List Str × Str × Str) : PyData := .tuple [tupS b.1, .str b.2.1, .str b.2.2]
/-- the names that are not in c -/
def outL (m : Man) (c : List Str) : List Str := (nms m).filter fun x => !decide (x ∈ c)
noncomputable def stepB (m : Man) (is : Its) (c : List Str) (x : Str) : List (List Str × Str × Str) := (stepG m is c x).map fun p => (c, x, p.1)
noncomputable def breaksL (m : Man) (is : Its) : List (List Str × Str × Str) := (closedL m).flatMap fun c => (outL m c).flatMap fun x => stepB m is c x
theorem step_in {m : Man} (W : Wf m) {is : Its} {c : List Str} (hc : c ∈ closedL m) {x : Str} (hx : x ∈ c) : stepG m is c x = [] := by
  have e : clo m (c ++ [x]) = c := by
    obtain ⟨s, e⟩ := (mem_closedL W).mp hc
    have : clo m (c ++ [x]) = clo m c := by
      unfold clo
      refine List.filter_congr fun y _ => decide_eq_decide.mpr ⟨fun r => r.mono fun z hz => ?_, fun r => r.mono fun z hz => .base (List.mem_append_left _ hz)⟩
      rcases List.mem_append.mp hz with hz | hz
      · exact .base hz
      · cases List.mem_singleton.mp hz; exact .base hx
    rw [this, e]
  unfold stepG goneL
  rw [e]
  refine List.filter_eq_nil_iff.mpr fun p hp => ?_
  rw [decide_eq_true hp]; decide
end L2.Pu

set_option Elab.async false
set_option linter.all false
set_option maxRecDepth 100000
set_option maxHeartbeats 4000000
namespace L2.Pu
open PySem PySem.Spec PyProof.Rows
def headD : PyData → PyData
  | .tuple (x :: _) => x
  | d => d
theorem snoc_cases {α : Type} (l : List α) : l = [] ∨ ∃ r x, l = r ++ [x] := snoc_ind (p := fun l => l = [] ∨ ∃ r x, l = r ++ [x]) (.inl rfl) (fun l x _ => .inr ⟨l, x, rfl⟩) l
theorem isE_snoc {ws : List Str} {x : Str} : (!((ws ++ [x]).map PyData.str).isEmpty) = true := by simp
theorem last_snoc {ws : List Str} {x : Str} : ((ws ++ [x]).map PyData.str).getLast? = some (.str x) := by simp
theorem drop_snoc {ws : List Str} {x : Str} : ((ws ++ [x]).map PyData.str).dropLast = ws.map PyData.str := by rw [List.map_append]; exact List.dropLast_concat
theorem getD_man {m : Man} {x : Str} (h : x ∈ nms m) : getD ((manE m).map fun e => (keyD e.1, e.2)) (.inr x) = some (tupS (impl m x)) := by rw [getD_map, get_man h]
section
variable {P : Program} {w : World} {K : PySem.W.Frag} {mg : Str → Option Value} {base : Heap} {τ : Tb}
def spFeaturesIn : PSp := fun ss κ => ∃ m : Man, ss = [.val (manD m)] ∧ κ (tupS (m.map (·.1))) [.un]
def tailD (x : Str) : PyData → PyData
  | .tuple ds => .tuple (ds ++ [.str x])
  | d => d
def spSubsets : PSp := fun ss κ => ∃ names : List Str, ss = [.val (tupS names)] ∧ names.length ≤ 10 ∧ κ (.list ((sortR (subsD names)).map tupS)) [.un]
def spClosedOver : PSp := fun ss κ => ∃ (m : Man) (fs : List Str), ss = [.val (manD m), .val (tupS fs)] ∧ Wf m ∧ (∀ x ∈ fs, x ∈ nms m) ∧ fs.length ≤ 1000 ∧ κ (tupS (clo m fs)) [.un, .un]
def spAllReq : PSp := fun ss κ => ∃ m : Man, ss = [.val (manD m)] ∧ m.length ≤ 10 ∧ κ (.list ((sortR (subsD (nms m))).map tupS)) [.un]
def spClosedReq : PSp := fun ss κ => ∃ m : Man, ss = [.val (manD m)] ∧ Wf m ∧ okS (nms m) ∧ κ (.tuple ((closedL m).map tupS)) [.un]
open Classical in
theorem filt_tup {rs : List (List Str)} (p : List Str → Prop) : ((rs.map tupS).filter fun d => decide (∃ s, d = tupS s ∧ p s)).map id = (rs.filter fun s => decide (p s)).map tupS := by
  rw [List.map_id, List.filter_map]
  congr 1
  refine List.filter_congr fun s _ => ?_
  show decide (∃ s', tupS s = tupS s' ∧ p s') = decide (p s)
  refine decide_eq_decide.mpr ⟨?_, fun h => ⟨s, rfl, h⟩⟩
  rintro ⟨s', e, h⟩
  rw [tupS_inj e]; exact h
theorem Wf.sub {m : Man} {s : List Str} (h : s ∈ subsD (nms m)) : ∀ x ∈ s, x ∈ nms m := fun x hx => ((subsD_sub _ s).mp h).subset hx
end
end L2.Pu
/-! ## The law's small defs -/
namespace L2.Pu
open PySem PySem.Spec PyProof.Rows
section
variable {P : Program} {w : World} {K : PySem.W.Frag} {mg : Str → Option Value} {base : Heap}
end
end L2.Pu
namespace L2.Pu
open PySem PySem.Spec PyProof.Rows
section
variable {P : Program} {w : World} {K : PySem.W.Frag} {mg : Str → Option Value} {base : Heap} {τ : Tb}
def spOf : PSp := fun ss κ => ∃ n ds, ss = [.own true (.hand (n + 1)), .val (.list ds)] ∧ ds ≠ [] ∧ ds.length ≤ 1000000 ∧ ∀ d ∈ ds, κ d [.own true (.hand n), .un]
theorem atI_mem {ds : List PyData} {x : Int} (h0 : 0 ≤ x) (h1 : x < ds.length) : ∃ d ∈ ds, atI ds x = some d := by
  obtain ⟨v, hv, hm⟩ := Fu.atI_in h0 h1
  exact ⟨v, hm, hv⟩
def spSome : PSp := fun ss κ => ∃ (n : Nat) (xs : List Str) (often : Int), ss = [.own true (.hand n), .val (strsL xs), .val (.int often)] ∧ xs.length ≤ n ∧ 0 < often ∧ often < 1000000000 ∧ ∀ (ys : List Str) (n' : Nat), ys.Sublist xs → n - xs.length ≤ n' → κ (tupS ys) [.own true (.hand n'), .un, .un]
end
end L2.Pu
namespace L2.Pu
open PySem PySem.Spec PyProof.Rows
section
variable {P : Program} {w : World} {K : PySem.W.Frag} {mg : Str → Option Value} {base : Heap} {τ : Tb}
theorem map_erase {α β : Type} (f : α → β) : ∀ (l : List α) (n : Nat), (l.map f).eraseIdx n = (l.eraseIdx n).map f
  | [], _ => rfl
  | _ :: _, 0 => rfl
  | x :: l, n + 1 => by simp only [List.map_cons, List.eraseIdx_cons_succ, map_erase f l n]
def ten : List Str := ["a", "alloc", "b", "c", "d", "longname", "not", "std", "x", "zz"]
def spNames : PSp := fun ss κ => ∃ (n : Nat) (c : Nat), ss = [.own true (.hand n), .val (.int c)] ∧ 10 ≤ n ∧ c ≤ 10 ∧ ∀ (ys : List Str) (n' : Nat), ys.Sublist ten → ys.length = c → n - 10 ≤ n' → κ (strsL ys) [.own true (.hand n'), .un]
end
end L2.Pu
namespace L2.Pu
open PySem PySem.Spec PyProof.Rows
section
variable {P : Program} {w : World} {K : PySem.W.Frag} {mg : Str → Option Value} {base : Heap} {τ : Tb}
structure GoodM (m : Man) : Prop where
  nam : (nms m).Sublist ten
  imp : ∀ r ∈ m, r.2.Sublist (nms m)
def othD (x : Str) : PyData → Bool
  | .str o => !decide (o = x)
  | _ => true
theorem oth_filter (x : Str) (ys : List Str) : ((ys.map PyData.str).filter (othD x)).map id = (ys.filter fun o => !decide (o = x)).map PyData.str := by
  rw [List.map_id, List.filter_map]; rfl
def spManifest : PSp := fun ss κ => ∃ (n c : Nat), ss = [.own true (.hand n), .val (.int c)] ∧ 200 ≤ n ∧ c ≤ 10 ∧ ∀ (m : Man) (n' : Nat), GoodM m → m.length = c → n - 200 ≤ n' → κ (manD m) [.own true (.hand n'), .un]
end
end L2.Pu
namespace L2.Pu
open PySem PySem.Spec PyProof.Rows
section
variable {P : Program} {w : World} {K : PySem.W.Frag} {mg : Str → Option Value} {base : Heap} {τ : Tb}
instance (a b : Str) : Decidable (ltS a b) := inferInstanceAs (Decidable (_ ∧ _))
theorem ten_asc : ten.Pairwise ltS := by decide +kernel
theorem ten_ok : okS ten := by unfold okS; decide +kernel
theorem ten_len : ∀ x ∈ ten, (reprText x).length ≤ 10 := by decide +kernel
theorem GoodM.few {m : Man} (g : GoodM m) : (nms m).length ≤ 10 := g.nam.length_le
theorem GoodM.wf {m : Man} (g : GoodM m) : Wf m where
  asc := ten_asc.sublist g.nam
  inn := fun r hr y hy => (g.imp r hr).subset hy
  few := by have := g.few; rw [List.length_map] at this; exact this
  short := fun r hr => Nat.le_trans (g.imp r hr).length_le g.few
theorem GoodM.ok {m : Man} (g : GoodM m) : okS (nms m) := fun x hx => ten_ok x (g.nam.subset hx)
theorem GoodM.shown {m : Man} (g : GoodM m) : Fits (manD m) := by
  have row : ∀ d ∈ m.map rowD, Shows d 1000 2 := fun d hd => by
    obtain ⟨r, hr, rfl⟩ := List.mem_map.mp hd
    have h1 : r.1 ∈ ten := g.nam.subset (List.mem_map.mpr ⟨r, hr, rfl⟩)
    have h2 := shows_tupS (n := 10) (m := 10) (fun x hx => ten_len x (g.nam.subset ((g.imp r hr).subset hx))) (g.wf.short r hr)
    exact (Shows.tup (ShowsAll.cons (shows_str (k := 1) (ten_len _ h1)) (ShowsAll.cons h2 (ShowsAll.nil _)))).more (by omega) (by omega)
  refine (Shows.tup (shows_all row)).more ?_ (by omega)
  have := g.wf.few
  rw [List.length_map]
  have := Nat.mul_le_mul_right 1002 this
  omega
theorem closedL_len (m : Man) : (closedL m).length ≤ 2 ^ m.length := by
  unfold closedL
  refine Nat.le_trans (List.length_filter_le _ _) ?_
  rw [sortR, List.length_mergeSort, subsD_len, List.length_map]; exact Nat.le_refl _
theorem GoodM.shownC {m : Man} (g : GoodM m) : Fits (.tuple ((closedL m).map tupS)) := by
  have row : ∀ d ∈ (closedL m).map tupS, Shows d 123 1 := fun d hd => by
    obtain ⟨r, hr, rfl⟩ := List.mem_map.mp hd
    have hr' : r ∈ subsD (nms m) := mem_sortR.mp (List.mem_filter.mp hr).1
    have h := (subsD_sub _ r).mp hr'
    exact shows_tupS (n := 10) (m := 10) (fun x hx => ten_len x (g.nam.subset (h.subset hx))) (Nat.le_trans h.length_le g.few)
  refine (Shows.tup (shows_all row)).more ?_ (by omega)
  have h1 := closedL_len m
  have h2 : 2 ^ m.length ≤ 2 ^ 10 := Nat.pow_le_pow_right (by decide) g.wf.few
  rw [List.length_map]
  have := Nat.mul_le_mul_right 125 (Nat.le_trans h1 h2)
  omega
end
end L2.Pu
namespace L2.Pu
open PySem PySem.Spec PyProof.Rows
section
variable {P : Program} {w : World} {K : PySem.W.Frag} {mg : Str → Option Value} {base : Heap} {τ : Tb}
def spIsName : PSp := fun ss κ => ∃ d, ss = [.val d] ∧ Seen1 d ∧ κ (.bool (nameB d)) [.un]
theorem signs_map (x : Str) : ((signs x).map fun d => PyData.bool (signB d)) = (x.cps.toList.map fun c => decide (c ∈ lettersS.cps.toList)).map PyData.bool := by
  unfold signs
  rw [List.map_map, List.map_map]
  rfl
def spAsc : PSp := fun ss κ => ∃ d, ss = [.val d] ∧ SeenT d ∧ κ (.bool (ascB d)) [.un]
open Classical in
theorem ascB_not {d : PyData} (h : ∀ r : List Str, d = tupS r → False) : ascB d = false := by
  unfold ascB
  exact decide_eq_false fun ⟨r, e, _⟩ => h r e
def upD (r : List Str) : PyData → PyData
  | .int i => .bool (upB r i.toNat)
  | d => d
theorem up_map (r : List Str) (n : Nat) : (rngD 0 n).map (upD r) = ((List.range n).map (upB r)).map PyData.bool := by
  unfold rngD
  rw [List.map_map, List.map_map]
  refine List.map_congr_left fun i _ => ?_
  show PyData.bool (upB r (0 + (i : Int)).toNat) = _
  rw [Int.zero_add]; rfl
theorem atI_nat {α : Type} {ds : List α} {i : Nat} (h : i < ds.length) : atI ds (i : Int) = some ds[i] := by
  unfold atI ixN
  rw [if_pos (by omega), if_pos (by omega)]
  simp
end
end L2.Pu
namespace L2.Pu
open PySem PySem.Spec PyProof.Rows
section
variable {P : Program} {w : World} {K : PySem.W.Frag} {mg : Str → Option Value} {base : Heap} {τ : Tb}
def spIsReq : PSp := fun ss κ => ∃ (m : Man) (d : PyData), ss = [.val (manD m), .val d] ∧ SeenT d ∧ κ (.bool (reqB m d)) [.un, .un]
def inB (ns : List Str) : PyData → PyData
  | .str x => .bool (decide (x ∈ ns))
  | d => d
theorem in_map (ns r : List Str) : (r.map PyData.str).map (inB ns) = (r.map fun x => decide (x ∈ ns)).map PyData.bool := by
  rw [List.map_map, List.map_map]; rfl
/-- a request, as data -/
structure Req (m : Man) (r : List Str) : Prop where
  nam : ∀ x ∈ r, nameS x = true
  asc : r.Pairwise ltS
  inn : ∀ x ∈ r, x ∈ nms m
  few : r.length ≤ 400
open Classical in
theorem Req.ok {m : Man} {r : List Str} (h : Req m r) : reqB m (tupS r) = true := by
  unfold reqB
  exact decide_eq_true ⟨r, rfl, h.nam, h.asc, h.inn⟩
theorem Req.seen {m : Man} {r : List Str} (h : Req m r) : SeenT (tupS r) := seenT_of (fun x hx => Nat.le_trans (nameS_few (h.nam x hx)) (by decide)) (by have := h.few; omega)
def spClosure : PSp := fun ss κ => ∃ (m : Man) (r : List Str), ss = [.val (manD m), .val (tupS r)] ∧ Wf m ∧ Req m r ∧ κ (tupS (clo m r)) [.un, .un]
def spLeast : PSp := fun ss κ => ∃ (m : Man) (r : List Str), ss = [.val (manD m), .val (tupS r)] ∧ Wf m ∧ okS (nms m) ∧ Req m r ∧ κ (.tuple ((leastL m r).map tupS)) [.un, .un]
def lenB (n : Nat) : PyData → Bool
  | .tuple ds => decide ((ds.length : Int) = n)
  | _ => false
def spWithin : PSp := fun ss κ => ∃ (a b : List Str), ss = [.val (tupS a), .val (tupS b)] ∧ κ (.bool (decide (∀ x ∈ a, x ∈ b))) [.un, .un]
theorem all_in (a b : List Str) : ((a.map fun x => decide (x ∈ b)).all id) = decide (∀ x ∈ a, x ∈ b) := by
  rw [Bool.eq_iff_iff, List.all_map, List.all_eq_true, decide_eq_true_iff]
  exact ⟨fun h x hx => of_decide_eq_true (h x hx), fun h x hx => decide_eq_true (h x hx)⟩
end
theorem lay_tups : ∀ {rs : List (List Str)}, (∀ r ∈ rs, okS r) → PyData.canLayAll0 (rs.map tupS) = true
  | [], _ => rfl
  | r :: rs, h => by
    rw [List.map_cons, PyData.canLayAll0, lay_tups fun y hy => h y (List.mem_cons_of_mem _ hy)]
    unfold tupS
    rw [PyData.canLay0, lay_strs (h r List.mem_cons_self)]; rfl
theorem depth_tups : ∀ rs : List (List Str), PyData.depthAll (rs.map tupS) ≤ 1
  | [] => Nat.zero_le _
  | r :: rs => by
    have := depth_tups rs
    simp only [List.map_cons, PyData.depthAll, tupS, PyData.depth, depth_strs] at this ⊢
    exact Nat.max_le.mpr ⟨Nat.le_refl _, this⟩
theorem shp_tups {rs : List (List Str)} (h : ∀ r ∈ rs, okS r) : Shp (.list (rs.map tupS)) ∧ Shp (.tuple (rs.map tupS)) := by
  have d := depth_tups rs
  have l := lay_tups h
  constructor
  · show SeqAt.shaped _ = true
    unfold SeqAt.shaped
    rw [Bool.and_eq_true]
    exact ⟨by rw [PyData.canLay0]; exact l, decide_eq_true (by simp only [PyData.depth]; omega)⟩
  · show SeqAt.shaped _ = true
    unfold SeqAt.shaped
    rw [Bool.and_eq_true]
    exact ⟨by rw [PyData.canLay0]; exact l, decide_eq_true (by simp only [PyData.depth]; omega)⟩
theorem ten_name : ∀ x ∈ ten, nameS x = true := by decide +kernel
theorem GoodM.req {m : Man} (g : GoodM m) {r : List Str} (h : r.Sublist (nms m)) : Req m r :=
  ⟨fun x hx => ten_name x (g.nam.subset (h.subset hx)), g.wf.asc.sublist h, fun x hx => h.subset hx, by have := h.length_le; have := g.few; omega⟩
theorem GoodM.okr {m : Man} (g : GoodM m) {r : List Str} (h : r.Sublist (nms m)) : okS r := fun x hx => g.ok x (h.subset hx)
theorem closedL_sub {m : Man} (W : Wf m) {c : List Str} (h : c ∈ closedL m) : c.Sublist (nms m) := ((mem_closedL W).mp h).1
theorem sub_bothS {m : Man} (W : Wf m) {a b : List Str} (ha : a.Sublist (nms m)) (hb : b.Sublist (nms m)) : (bothS a b).Sublist (nms m) :=
  sub_of_asc (bothS_asc _ _) W.asc fun x hx => (mem_bothS.mp hx).elim (fun z => ha.subset z) fun z => hb.subset z
theorem cut_lo (r : List Str) (i : Nat) : cutD (r.map PyData.str) none (some (i : Int)) = (r.take i).map PyData.str := by
  unfold cutD
  rw [HT.sIx_none, HT.sIx_nat, List.drop_zero, Nat.sub_zero, List.length_map, ← List.map_take]
  congr 1
  rcases Nat.le_total i r.length with h | h
  · rw [Nat.min_eq_left h]
  · rw [Nat.min_eq_right h, List.take_of_length_le (Nat.le_refl _), List.take_of_length_le h]
theorem cut_hi (r : List Str) (i : Nat) : cutD (r.map PyData.str) (some (i : Int)) none = (r.drop i).map PyData.str := by
  unfold cutD
  rw [HT.sIx_none, HT.sIx_nat, List.length_map, ← List.map_drop, ← List.map_take]
  congr 1
  rcases Nat.le_total i r.length with h | h
  · rw [Nat.min_eq_left h, List.take_of_length_le (by rw [List.length_drop]; exact Nat.le_refl _)]
  · rw [Nat.min_eq_right h, List.drop_of_length_le (Nat.le_refl _), List.drop_of_length_le h, List.take_nil]
theorem atI_last {ds : List PyData} {d : PyData} (h : ds.getLast? = some d) : atI ds (-1) = some d := by
  rcases List.eq_nil_or_concat ds with rfl | ⟨r, y, rfl⟩
  · cases h
  · rw [List.concat_eq_append] at *
    rw [List.getLast?_append, List.getLast?_singleton] at h
    cases h
    unfold atI ixN
    rw [if_neg (by decide), if_pos (by rw [List.length_append, List.length_singleton]; omega)]
    show (r ++ [d])[(-1 + ((r ++ [d]).length : Int)).toNat]? = some d
    rw [List.length_append, List.length_singleton, show (-1 + ((r.length + 1 : Nat) : Int)).toNat = r.length by omega]
    simp
theorem atI_first {ds : List PyData} {d : PyData} (h : ds[0]? = some d) : atI ds 0 = some d := by
  cases ds with
  | nil => cases h
  | cons a as => cases h; exact atI_nat (ds := d :: as) (i := 0) (by simp)
end L2.Pu
namespace L2.Pu
open PySem PySem.Spec PyProof.Rows
theorem fD_ft (x : Str) : fD (.ft x) = .tuple [.str "feature", .str x] := by simp only [fD]
theorem fD_nd (h : Str) (ps : List Fo) : fD (.nd h ps) = .tuple (.str h :: ps.map fD) := by simp only [fD, fDs_map]
theorem cut1 (d : PyData) (ds : List PyData) : cutD (d :: ds) (some 1) none = ds := by
  unfold cutD
  rw [HT.sIx_none, show HT.sIx (d :: ds).length 0 (some (1 : Int)) = min 1 (d :: ds).length from HT.sIx_nat _ _ 1, List.length_cons, Nat.min_eq_left (by omega)]
  show (ds.take (ds.length + 1 - 1)) = ds
  rw [Nat.add_sub_cancel, List.take_of_length_le (Nat.le_refl _)]
theorem at0 (d : PyData) (ds : List PyData) : atI (d :: ds) 0 = some d := atI_nat (ds := d :: ds) (i := 0) (by simp)
theorem at1 (d e : PyData) (ds : List PyData) : atI (d :: e :: ds) 1 = some e := atI_nat (ds := d :: e :: ds) (i := 1) (by simp)
theorem hold_ft (S : List Str) (x : Str) : hold S (.ft x) = decide (x ∈ S) := by simp only [hold]
theorem hold_nd (S : List Str) (h : Str) (ps : List Fo) : hold S (.nd h ps) = if h = "not" then !((ps.map (hold S)).headD false) else if h = "all" then (ps.map (hold S)).all id else (ps.map (hold S)).any id := by simp only [hold, holdL_map]
theorem okF_nd {N : List Str} {h : Str} {ps : List Fo} : okF N (.nd h ps) ↔ h ∈ heads ∧ (h = "not" → ps.length = 1) ∧ ps.length ≤ 10 ∧ ∀ f ∈ ps, okF N f := by simp only [okF, okFs_iff]
theorem tall_nd {h : Str} {ps : List Fo} {n : Nat} : tall (.nd h ps) ≤ n + 1 ↔ ∀ f ∈ ps, tall f ≤ n := by simp only [tall, Nat.add_le_add_iff_right, tallAll_le]
theorem qss_no' {X : Cx} {τ : Tb} {sts : List Stmt} : PQSs τ X sts qNo := ⟨fun pins s σ H D I h => by obtain ⟨F, ρ, C, R, κ, k, _⟩ := h; exact False.elim k⟩
theorem sNF : ("feature" : Str) ≠ "not" := by decide +kernel
section
variable {P : Program} {w : World} {K : PySem.W.Frag} {mg : Str → Option Value} {base : Heap} {τ : Tb}
def spPartsOf : PSp := fun ss κ => ∃ (N : List Str) (f : Fo), ss = [.val (fD f)] ∧ okF N f ∧ κ (.tuple ((parts f).map fD)) [.un]
def spHolds (n : Nat) : PSp := fun ss κ => ∃ (N S : List Str) (f : Fo), ss = [.val (fD f), .val (tupS S)] ∧ okF N f ∧ tall f ≤ n ∧ κ (.bool (hold S f)) [.un, .un]
theorem tall_pos (f : Fo) : 1 ≤ tall f := by cases f <;> simp only [tall] <;> omega
end
end L2.Pu
namespace L2.Pu
open PySem PySem.Spec PyProof.Rows
section
variable {X : Cx} {τ : Tb} {pos : Pos} {a : Expr} {qa : QE}
theorem isN_imp {neg : Bool} : ∀ σ H Q, liftE (X.pk τ) (qUn (isND neg) qa) σ H Q → tOp (fun x y H Q => y = V.non ∧ Q (.bl (xor neg (decide (x = .non)))) H) (liftE (X.pk τ) qa) (tC V.non) σ H Q := by
  rintro σ H Q ⟨F, ρ, C, R, κ, k, z⟩
  refine ⟨F, ρ, C, R, _, k, fun d ρ1 v C1 H1 k1 s1 R1 d1 => ⟨rfl, ?_⟩⟩
  cases neg <;> cases d1 <;> exact z _ _ _ _ _ k1 s1 R1 (.bl _)
theorem qt_isN (h : PQ τ X a qa) {j p2} : PQT τ X (.Compare a [.Is] [.Constant .none j p2] pos) (qB (qUn (isND false) qa)) :=
  pt_imp _ (pt_cmpR (OpR.cong op_isN fun x y H Q h => ⟨h.1, by have := h.2; rw [Bool.false_xor] at this; exact this⟩) h pe_non (nomark _)) (test_imp isN_imp)
theorem qt_notN (h : PQ τ X a qa) {j p2} : PQT τ X (.Compare a [.IsNot] [.Constant .none j p2] pos) (qB (qUn (isND true) qa)) :=
  pt_imp _ (pt_cmpR (OpR.cong op_notN fun x y H Q h => ⟨h.1, by have := h.2; rw [Bool.true_xor] at this; exact this⟩) h pe_non (nomark _)) (test_imp isN_imp)
end
section
variable {P : Program} {w : World} {K : PySem.W.Frag} {mg : Str → Option Value} {base : Heap} {τ : Tb}
def okR (N : List Str) (rs : Rw) : Prop := ∀ r ∈ rs, okF N r.1 ∧ tall r.1 ≤ 5
def spVer : PSp := fun ss κ => ∃ (N S : List Str) (rs : Rw), ss = [.val (.tuple (rs.map rwD)), .val (tupS S)] ∧ okR N rs ∧ κ (optD (verOf S rs)) [.un, .un]
def seenB : PyData → Bool
  | .tuple [_, .none] => false
  | _ => true
def verD (S : List Str) (i : Str × Rw) : PyData := .tuple [.str i.1, optD (verOf S i.2)]
theorem view_filter (S : List Str) : ∀ is : Its, (is.map (verD S)).filter seenB = (viewL is S).map prD
  | [] => rfl
  | i :: is => by
    rw [List.map_cons, List.filter_cons, view_filter S is]
    unfold viewL
    rw [List.filterMap_cons]
    cases e : verOf S i.2 with
    | none =>
      have : seenB (verD S i) = false := by unfold verD; rw [e]; rfl
      rw [this]; rfl
    | some v =>
      have : verD S i = prD (i.1, v) := by unfold verD prD; rw [e]; rfl
      rw [this]; rfl
def spViewAt : PSp := fun ss κ => ∃ (N S : List Str) (m : Man) (is : Its), ss = [.val (libD m is), .val (tupS S)] ∧ OkI N is ∧ κ (.tuple ((viewL is S).map prD)) [.un, .un]
def notInP (b : List (Str × Int)) : PyData → Bool := fun d => !((b.map prD).any fun z => PyData.eqv z d)
def spGone : PSp := fun ss κ => ∃ (a b : List (Str × Int)), ss = [.val (.tuple (a.map prD)), .val (.tuple (b.map prD))] ∧ okP a ∧ okP b ∧ κ (.list ((goneL a b).map prD)) [.un, .un]
theorem gone_filter (a b : List (Str × Int)) : (a.map prD).filter (notInP b) = (goneL a b).map prD := by
  rw [List.filter_map]
  unfold goneL
  congr 1
  refine List.filter_congr fun p _ => ?_
  show (!((b.map prD).any fun z => PyData.eqv z (prD p))) = _
  rw [any_eqv_pairs]
def spView : PSp := fun ss κ => ∃ (N r : List Str) (m : Man) (is : Its), ss = [.val (libD m is), .val (tupS r)] ∧ Wf m ∧ Req m r ∧ OkI N is ∧ κ (.tuple ((viewL is (clo m r)).map prD)) [.un, .un]
noncomputable def lostL (m : Man) (is : Its) (r q : List Str) : List (Str × Int) := goneL (viewL is (clo m r)) (viewL is (clo m (r ++ q)))
def spLost : PSp := fun ss κ => ∃ (N r q : List Str) (m : Man) (is : Its), ss = [.val (libD m is), .val (tupS r), .val (tupS q)] ∧ Wf m ∧ Req m r ∧ Req m q ∧ OkI N is ∧ κ (.tuple ((lostL m is r q).map prD)) [.un, .un, .un]
end
end L2.Pu
namespace L2.Pu
open PySem PySem.Spec PyProof.Rows
theorem okF_leaf {N : List Str} {h : Str} (e : h = "all" ∨ h = "any") : okF N (.nd h []) := okF_nd.mpr ⟨by unfold heads; rcases e with rfl | rfl <;> simp, by rcases e with rfl | rfl <;> exact fun z => absurd z (by decide +kernel), by simp, (fun _ z => nomatch z)⟩
section
variable {P : Program} {w : World} {K : PySem.W.Frag} {mg : Str → Option Value} {base : Heap} {τ : Tb}
def spForm (d : Nat) : PSp := fun ss κ => ∃ (n : Nat) (N : List Str), ss = [.own true (.hand n), .val (strsL N), .val (.int d)] ∧ okS N ∧ N.length ≤ 10 ∧ 4 ^ (d + 1) ≤ n ∧ ∀ (f : Fo) (n' : Nat), okF N f → tall f ≤ d + 1 → n - 4 ^ (d + 1) ≤ n' → κ (fD f) [.own true (.hand n'), .un, .un]
theorem pow4 (d : Nat) : 4 ≤ 4 ^ (d + 1) := by
  have : 4 ^ 1 ≤ 4 ^ (d + 1) := Nat.pow_le_pow_right (by decide) (by omega)
  simpa using this
theorem eq_nil_shp : Shp (strsL []) := by decide +kernel
def spFormLe (D : Nat) : PSp := fun ss κ => ∃ d : Nat, d ≤ D ∧ spForm d ss κ
end
end L2.Pu
namespace L2.Pu
open PySem PySem.Spec PyProof.Rows
def twelve : List Str := ["f", "g", "h", "item", "k", "lock", "m", "n", "o", "panic", "vec", "z"]
theorem twelve_ok : ∀ x ∈ twelve, x.length ≤ 8 ∧ PyData.canLay0 (.str x) = true := by decide +kernel
theorem cut_take (ds : List PyData) (i : Nat) : cutD ds none (some (i : Int)) = ds.take i := by
  unfold cutD
  rw [HT.sIx_none, HT.sIx_nat, List.drop_zero, Nat.sub_zero]
  rcases Nat.le_total i ds.length with h | h
  · rw [Nat.min_eq_left h]
  · rw [Nat.min_eq_right h, List.take_of_length_le (Nat.le_refl _), List.take_of_length_le h]
section
variable {P : Program} {w : World} {K : PySem.W.Frag} {mg : Str → Option Value} {base : Heap} {τ : Tb}
def okRow (N : List Str) (r : Fo × Int) : Prop := okF N r.1 ∧ tall r.1 ≤ 5 ∧ 0 ≤ r.2 ∧ r.2 ≤ 99
structure LibX (is : Its) : Prop where
  names : (is.map (·.1)).Sublist twelve
  rows : ∀ i ∈ is, i.2 ≠ [] ∧ i.2.length ≤ 6 ∧ ∀ r ∈ i.2, tall r.1 ≤ 3
def spLibrary : PSp := fun ss κ => ∃ (n c i : Nat), ss = [.own true (.hand n), .val (.int c), .val (.int i)] ∧ 6000 ≤ n ∧ c ≤ 10 ∧ i ≤ 12 ∧ ∀ (m : Man) (is : Its) (n' : Nat), GoodM m → m.length = c → OkI (nms m) is → LibX is → is.length ≤ i → n - 6000 ≤ n' → κ (libD m is) [.own true (.hand n'), .un, .un]
end
end L2.Pu
namespace L2.Pu
open PySem PySem.Spec PyProof.Rows
section
variable {P : Program} {w : World} {K : PySem.W.Frag} {mg : Str → Option Value} {base : Heap} {τ : Tb}
def fdE (l : List Str) : List (Key × PyData) := l.map fun x => (.inr x, .bool true)
theorem fd_in (x : Str) : ∀ l : List Str, (getD ((fdE l).map fun e => (keyD e.1, e.2)) (.inr x)).isSome = decide (x ∈ l) := fun l => by
  rw [getD_map]
  induction l with
  | nil => rfl
  | cons y l ih =>
    unfold getK fdE at ih ⊢
    rw [List.map_cons, List.find?_cons]
    by_cases e : y = x
    · subst e; simp
    · have : decide ((Sum.inr y : Key) = Sum.inr x) = false := decide_eq_false fun z => e (Sum.inr.inj z)
      simp only [this]
      rw [ih]
      have ne : ¬ x = y := fun z => e z.symm
      simp [ne]
theorem fd_put {x : Str} {l : List Str} (h : x ∉ l) : setK (fdE l) (.inr x) (.bool true) = fdE (l ++ [x]) := by
  rw [setK_new]
  · unfold fdE; rw [List.map_append]; rfl
  · intro z
    unfold fdE at z
    rw [List.map_map] at z
    obtain ⟨y, hy, e⟩ := List.mem_map.mp z
    cases e; exact h hy
theorem fd_keys (l : List Str) : ((fdE l).map fun e => (keyD e.1, e.2)).map (·.1) = l.map PyData.str := by
  unfold fdE; rw [List.map_map, List.map_map]; rfl
def spLClosed : PSp := fun ss κ => ∃ (m : Man) (fs : List Str), ss = [.val (manD m), .val (tupS fs)] ∧ Wf m ∧ okS (nms m) ∧ (∀ x ∈ fs, x ∈ nms m) ∧ fs.length ≤ 1000 ∧ κ (tupS (clo m fs)) [.un, .un]
def spSets : PSp := fun ss κ => ∃ m : Man, ss = [.val (manD m)] ∧ Wf m ∧ okS (nms m) ∧ κ (.list ((closedL m).map tupS)) [.un]
end
end L2.Pu

set_option Elab.async false
set_option linter.all false
set_option maxRecDepth 100000
set_option maxHeartbeats 4000000
namespace L2.Pu
open PySem PySem.Spec PyProof.Rows
def intIn (lo hi : Int) : PyData → Bool
  | .int i => decide (lo ≤ i) && decide (i ≤ hi)
  | _ => false
theorem ints_mem {ds : List PyData} (lo hi : Int) (h : ds.all (intIn lo hi) = true) {d : PyData} (hd : d ∈ ds) : ∃ i : Int, d = .int i ∧ lo ≤ i ∧ i ≤ hi := by
  have := List.all_eq_true.mp h d hd
  cases d with
  | int i =>
    unfold intIn at this
    rw [Bool.and_eq_true] at this
    exact ⟨i, rfl, of_decide_eq_true this.1, of_decide_eq_true this.2⟩
  | _ => cases this
theorem nats_mem {ds : List PyData} (hi : Nat) (h : ds.all (intIn 0 hi) = true) {d : PyData} (hd : d ∈ ds) : ∃ i : Nat, d = .int i ∧ i ≤ hi := by
  obtain ⟨i, rfl, h0, h1⟩ := ints_mem 0 hi h hd
  obtain ⟨n, rfl⟩ := Int.eq_ofNat_of_zero_le h0
  exact ⟨n, rfl, by omega⟩
theorem seen_put {vd : List (Str × Int)} {x : Str} (h : x ∉ vd.map (·.1)) (o : Option Int) (v : Int) : setK (seenE (vd ++ (o.map fun u => (x, u)).toList)) (.inr x) (.int v) = seenE (vd ++ [(x, v)]) := by
  have hk : ∀ e ∈ seenE vd, ¬ e.1 = (Sum.inr x : Key) := fun e he z => by
    unfold seenE at he
    obtain ⟨p, hp, rfl⟩ := List.mem_map.mp he
    exact h (List.mem_map.mpr ⟨p, hp, Sum.inr.inj z⟩)
  cases o with
  | none =>
    rw [Option.map_none, Option.toList_none, List.append_nil, setK_new]
    · unfold seenE; rw [List.map_append]; rfl
    · intro z
      obtain ⟨e, he, z⟩ := List.mem_map.mp z
      exact hk e he z
  | some u =>
    have e : seenE (vd ++ ((some u).map fun u => (x, u)).toList) = seenE vd ++ [(.inr x, .int u)] := by unfold seenE; rw [List.map_append]; rfl
    rw [e]
    unfold setK
    rw [if_pos (by rw [List.any_append, Bool.or_eq_true]; exact .inr (by simp)), List.map_append]
    have e2 : (seenE vd).map (fun e => if e.1 = (Sum.inr x : Key) then (e.1, PyData.int v) else e) = seenE vd := by
      conv => rhs; rw [← List.map_id (seenE vd)]
      exact List.map_congr_left fun e he => by rw [if_neg (hk e he)]; rfl
    rw [e2]
    have e3 : seenE (vd ++ [(x, v)]) = seenE vd ++ [(.inr x, .int v)] := by unfold seenE; rw [List.map_append]; rfl
    rw [e3]
    simp
theorem view_snoc (is : Its) (i : Str × Rw) (S : List Str) : viewL (is ++ [i]) S = viewL is S ++ ((verOf S i.2).map fun u => (i.1, u)).toList := by
  unfold viewL
  rw [List.filterMap_append]
  cases h : verOf S i.2 with
  | none => simp [h]
  | some v => simp [h]
theorem seenE_len (v : List (Str × Int)) : (seenE v).length = v.length := List.length_map _
theorem seenE_keys (v : List (Str × Int)) : (((seenE v).map fun e => (keyD e.1, e.2)).map (·.1)) = v.map fun p => PyData.str p.1 := by
  unfold seenE; rw [List.map_map, List.map_map]; rfl
theorem shp_none : Shp PyData.none := by decide +kernel
theorem shp_int {v : Int} (h : PyData.canLay0 (.int v) = true) : Shp (.int v) := by
  show SeqAt.shaped _ = true
  unfold SeqAt.shaped
  rw [Bool.and_eq_true]
  exact ⟨h, decide_eq_true (by simp only [PyData.depth]; omega)⟩
theorem shp_seen {b : List (Str × Int)} (h : okP b) (x : Str) : Shp ((getK (seenE b) (.inr x)).getD .none) := by
  unfold getK seenE
  cases e : (b.map fun p => ((.inr p.1 : Key), PyData.int p.2)).find? fun e => decide (e.1 = (Sum.inr x : Key)) with
  | none => exact shp_none
  | some r =>
    obtain ⟨p, hp, rfl⟩ := List.mem_map.mp (List.mem_of_find?_eq_some e)
    exact shp_int (h p hp).2
theorem twelve_asc : twelve.Pairwise ltS := by decide +kernel
theorem LibX.asc {is : Its} (x : LibX is) : (is.map (·.1)).Pairwise ltS := twelve_asc.sublist x.names
theorem view_asc {is : Its} (h : (is.map (·.1)).Pairwise ltS) (S : List Str) : ((viewL is S).map (·.1)).Pairwise ltS := h.sublist (view_names S)
theorem view_nd {is : Its} (h : (is.map (·.1)).Pairwise ltS) (S : List Str) : ((viewL is S).map (·.1)).Nodup := asc_nodup (view_asc h S)
theorem out_len (m : Man) (c : List Str) : (outL m c).length ≤ m.length := by
  unfold outL
  exact Nat.le_trans (List.length_filter_le _ _) (by rw [List.length_map]; exact Nat.le_refl _)
theorem mem_outL {m : Man} {c : List Str} {x : Str} : x ∈ outL m c ↔ x ∈ nms m ∧ x ∉ c := by
  unfold outL
  rw [List.mem_filter, Bool.not_eq_true', decide_eq_false_iff_not]
theorem stepG_len (m : Man) (is : Its) (c : List Str) (x : Str) : (stepG m is c x).length ≤ is.length := by
  unfold stepG goneL
  exact Nat.le_trans (List.length_filter_le _ _) (view_len _ _)
end L2.Pu

set_option Elab.async false
set_option linter.all false
set_option maxRecDepth 100000
set_option maxHeartbeats 4000000
/-! ## How long libraries and steps are when shown -/
namespace L2.Pu
open PySem PySem.Spec PyProof.Rows
def fsz : Nat → Nat
  | 0 => 0
  | t + 1 => 10 * (fsz t + 2) + 30
theorem heads_len : ∀ x ∈ heads, (reprText x).length ≤ 5 := by decide +kernel
theorem feature_len : (reprText "feature").length ≤ 9 := by decide +kernel
theorem shows_fo {N : List Str} (hN : ∀ x ∈ N, (reprText x).length ≤ 10) : ∀ (t : Nat) (f : Fo), okF N f → tall f ≤ t → Shows (fD f) (fsz t) t := by
  intro t
  induction t with
  | zero => intro f _ h; have := tall_pos f; omega
  | succ t ih =>
    intro f ok h
    cases f with
    | ft x =>
      rw [fD_ft]
      have hx : x ∈ N := by simpa only [okF] using ok
      refine (Shows.tup (ShowsAll.cons (shows_str (k := t) feature_len) (ShowsAll.cons (shows_str (hN x hx)) (ShowsAll.nil _)))).more ?_ (by omega)
      unfold fsz; omega
    | nd h0 ps =>
      rw [fD_nd]
      obtain ⟨hh, h1, h10, oks⟩ := okF_nd.mp ok
      have tls := tall_nd.mp h
      have all := shows_all (n := fsz t) (k := t) (ds := ps.map fD) fun d hd => by
        obtain ⟨g, hg, rfl⟩ := List.mem_map.mp hd
        exact ih g (oks g hg) (tls g hg)
      refine (Shows.tup (ShowsAll.cons (shows_str (k := t) (heads_len _ hh)) all)).more ?_ (by omega)
      rw [List.length_map]
      have := Nat.mul_le_mul_right (fsz t + 2) h10
      show _ ≤ 10 * (fsz t + 2) + 30
      omega
theorem twelve_len : ∀ x ∈ twelve, (reprText x).length ≤ 10 := by decide +kernel
theorem shows_vers {v : Int} {k : Nat} (a : 0 ≤ v) (b : v ≤ 99) : Shows (.int v) 2 k := by
  have : ∀ n : Fin 100, PyData.showable (.int ((n : Nat) : Int)) = true ∧ (PyData.shown (.int ((n : Nat) : Int))).length ≤ 2 ∧ PyData.hasDict (.int ((n : Nat) : Int)) = false := by decide +kernel
  obtain ⟨n, rfl⟩ := Int.eq_ofNat_of_zero_le a
  have t := this ⟨n, by omega⟩
  exact ⟨t.1, t.2.1, by simp only [PyData.depth]; exact Nat.zero_le _, t.2.2⟩
theorem shows_its {N : List Str} (hN : ∀ x ∈ N, (reprText x).length ≤ 10) {is : Its} (ok : OkI N is) (x : LibX is) : Shows (.tuple (is.map itD)) 500000 7 := by
  have row : ∀ i ∈ is, Shows (itD i) 33600 6 := fun i hi => by
    obtain ⟨n1, n2, n3⟩ := x.rows i hi
    have rows := (ok.rows i hi).2
    have all := shows_all (n := 5580) (k := 4) (ds := i.2.map rwD) fun d hd => by
      obtain ⟨r, hr, rfl⟩ := List.mem_map.mp hd
      obtain ⟨o1, _, o3, o4⟩ := rows r hr
      unfold rwD
      exact (Shows.tup (ShowsAll.cons (shows_fo hN 3 r.1 o1 (n3 r hr)) (ShowsAll.cons (shows_vers o3 o4) (ShowsAll.nil _)))).more (by simp only [fsz]; omega) (by omega)
    have hx : i.1 ∈ twelve := x.names.subset (List.mem_map.mpr ⟨i, hi, rfl⟩)
    unfold itD
    refine (Shows.tup (ShowsAll.cons (shows_str (twelve_len _ hx)) (ShowsAll.cons (Shows.tup all) (ShowsAll.nil _)))).more ?_ (by omega)
    rw [List.length_map]
    have := Nat.mul_le_mul_right 5582 n2
    omega
  refine (Shows.tup (shows_all (n := 33600) (k := 6) fun d hd => ?_)).more ?_ (Nat.le_refl _)
  · obtain ⟨i, hi, rfl⟩ := List.mem_map.mp hd
    exact row i hi
  · rw [List.length_map]
    have := Nat.mul_le_mul_right 33602 ok.few
    omega
theorem GoodM.names {m : Man} (g : GoodM m) : ∀ x ∈ nms m, (reprText x).length ≤ 10 := fun x hx => ten_len x (g.nam.subset hx)
theorem GoodM.shows {m : Man} (g : GoodM m) : Shows (manD m) 11000 3 := by
  have row : ∀ d ∈ m.map rowD, Shows d 1000 2 := fun d hd => by
    obtain ⟨r, hr, rfl⟩ := List.mem_map.mp hd
    have h1 : r.1 ∈ ten := g.nam.subset (List.mem_map.mpr ⟨r, hr, rfl⟩)
    have h2 := shows_tupS (n := 10) (m := 10) (fun x hx => ten_len x (g.nam.subset ((g.imp r hr).subset hx))) (g.wf.short r hr)
    exact (Shows.tup (ShowsAll.cons (shows_str (k := 1) (ten_len _ h1)) (ShowsAll.cons h2 (ShowsAll.nil _)))).more (by omega) (by omega)
  refine (Shows.tup (shows_all row)).more ?_ (by omega)
  have := g.wf.few
  rw [List.length_map]
  have := Nat.mul_le_mul_right 1002 this
  omega
theorem GoodM.showsLib {m : Man} (g : GoodM m) {is : Its} (ok : OkI (nms m) is) (x : LibX is) : Fits (libD m is) := by
  unfold libD
  exact (Shows.tup (ShowsAll.cons (g.shows.more (Nat.le_refl _) (by omega : 3 ≤ 7)) (ShowsAll.cons (shows_its g.names ok x) (ShowsAll.nil _)))).more (by omega) (by omega)
/-! ### steps that break -/
theorem flatMap_len {α β : Type} {n : Nat} (f : α → List β) : ∀ l : List α, (∀ x ∈ l, (f x).length ≤ n) → (l.flatMap f).length ≤ l.length * n
  | [], _ => by simp
  | a :: l, h => by
    rw [List.flatMap_cons, List.length_append, List.length_cons, Nat.succ_mul]
    have := h a List.mem_cons_self
    have := flatMap_len f l fun x hx => h x (List.mem_cons_of_mem _ hx)
    omega
theorem breaks_len (m : Man) (is : Its) : (breaksL m is).length ≤ (closedL m).length * (m.length * is.length) := by
  unfold breaksL
  refine flatMap_len _ _ fun c _ => Nat.le_trans (flatMap_len (n := is.length) _ _ fun x _ => ?_) (Nat.mul_le_mul_right _ (out_len m c))
  unfold stepB
  rw [List.length_map]
  exact stepG_len m is c x
theorem breaks_len8 {m : Man} {is : Its} (h : m.length ≤ 8) (h2 : is.length ≤ 12) : (breaksL m is).length ≤ 24576 := by
  have h1 := breaks_len m is
  have h3 := closedL_len m
  have h4 : 2 ^ m.length ≤ 2 ^ 8 := Nat.pow_le_pow_right (by decide) h
  have h5 : m.length * is.length ≤ 8 * 12 := Nat.mul_le_mul h h2
  have h6 : (closedL m).length * (m.length * is.length) ≤ 256 * 96 := Nat.mul_le_mul (by omega) h5
  omega
theorem mem_breaksL {m : Man} {is : Its} {b : List Str × Str × Str} : b ∈ breaksL m is ↔ b.1 ∈ closedL m ∧ b.2.1 ∈ outL m b.1 ∧ b.2.2 ∈ (stepG m is b.1 b.2.1).map (·.1) := by
  unfold breaksL stepB
  rw [List.mem_flatMap]
  constructor
  · rintro ⟨c, hc, h⟩
    obtain ⟨x, hx, h⟩ := List.mem_flatMap.mp h
    obtain ⟨p, hp, rfl⟩ := List.mem_map.mp h
    exact ⟨hc, hx, List.mem_map.mpr ⟨p, hp, rfl⟩⟩
  · rintro ⟨hc, hx, h⟩
    obtain ⟨p, hp, e⟩ := List.mem_map.mp h
    refine ⟨b.1, hc, List.mem_flatMap.mpr ⟨b.2.1, hx, List.mem_map.mpr ⟨p, hp, ?_⟩⟩⟩
    rw [e]
structure BrOk (b : List Str × Str × Str) : Prop where
  cs : ∀ x ∈ b.1, (reprText x).length ≤ 10 ∧ PyData.canLay0 (.str x) = true
  few : b.1.length ≤ 10
  x : (reprText b.2.1).length ≤ 10 ∧ PyData.canLay0 (.str b.2.1) = true
  i : (reprText b.2.2).length ≤ 10 ∧ PyData.canLay0 (.str b.2.2) = true
theorem GoodM.brOk {m : Man} (g : GoodM m) {is : Its} (x : LibX is) : ∀ b ∈ breaksL m is, BrOk b := fun b hb => by
  obtain ⟨h1, h2, h3⟩ := mem_breaksL.mp hb
  have sc := closedL_sub g.wf h1
  have hx := (mem_outL.mp h2).1
  obtain ⟨p, hp, e⟩ := List.mem_map.mp h3
  have hi : b.2.2 ∈ twelve := by
    rw [← e]
    exact x.names.subset ((view_names _).subset (List.mem_map.mpr ⟨p, (mem_goneL.mp hp).1, rfl⟩))
  exact ⟨fun y hy => ⟨g.names y (sc.subset hy), g.ok y (sc.subset hy)⟩, Nat.le_trans sc.length_le g.few, ⟨g.names _ hx, g.ok _ hx⟩, twelve_len _ hi, (twelve_ok _ hi).2⟩
theorem shows_br {b : List Str × Str × Str} (h : BrOk b) : Shows (brD b) 152 2 := by
  unfold brD
  exact (Shows.tup (ShowsAll.cons (shows_tupS (n := 10) (m := 10) (fun x hx => (h.cs x hx).1) h.few) (ShowsAll.cons (shows_str h.x.1) (ShowsAll.cons (shows_str h.i.1) (ShowsAll.nil _))))).more (by omega) (by omega)
theorem fits_brs {bs : List (List Str × Str × Str)} (h : ∀ b ∈ bs, BrOk b) (l : bs.length ≤ 100000) : Fits (.tuple (bs.map brD)) ∧ Fits (.list (bs.map brD)) := by
  have row : ∀ d ∈ bs.map brD, Shows d 152 2 := fun d hd => by
    obtain ⟨b, hb, rfl⟩ := List.mem_map.mp hd
    exact shows_br (h b hb)
  have := shows_all row
  rw [List.length_map] at this
  have l2 := Nat.mul_le_mul_right 154 l
  exact ⟨(Shows.tup this).more (by omega) (by omega), (Shows.lst this).more (by omega) (by omega)⟩
theorem lay_br {b : List Str × Str × Str} (h : BrOk b) : PyData.canLay0 (brD b) = true := by
  unfold brD
  rw [PyData.canLay0, PyData.canLayAll0, PyData.canLayAll0, PyData.canLayAll0, PyData.canLayAll0, h.x.2, h.i.2]
  unfold tupS
  rw [PyData.canLay0, lay_strs fun x hx => (h.cs x hx).2]; rfl
theorem lay_brs : ∀ {bs : List (List Str × Str × Str)}, (∀ b ∈ bs, BrOk b) → PyData.canLayAll0 (bs.map brD) = true
  | [], _ => rfl
  | b :: bs, h => by
    rw [List.map_cons, PyData.canLayAll0, lay_br (h b List.mem_cons_self), lay_brs fun y hy => h y (List.mem_cons_of_mem _ hy)]; rfl
theorem depth_brs : ∀ bs : List (List Str × Str × Str), PyData.depthAll (bs.map brD) ≤ 2
  | [] => Nat.zero_le _
  | b :: bs => by
    have := depth_brs bs
    simp only [List.map_cons, PyData.depthAll, brD, tupS, PyData.depth, depth_strs] at this ⊢
    exact Nat.max_le.mpr ⟨by decide, this⟩
theorem shp_brs {bs : List (List Str × Str × Str)} (h : ∀ b ∈ bs, BrOk b) : Shp (.list (bs.map brD)) := by
  have d := depth_brs bs
  show SeqAt.shaped _ = true
  unfold SeqAt.shaped
  rw [Bool.and_eq_true]
  exact ⟨by rw [PyData.canLay0]; exact lay_brs h, decide_eq_true (by simp only [PyData.depth]; omega)⟩
theorem eqv_nil_list (ds : List PyData) : PyData.eqv (.list ds) (.list []) = decide (ds = []) := by
  cases ds with
  | nil => rfl
  | cons a ds => rw [PyData.eqv]; rfl
theorem shp_nil : Shp (.list []) := by decide +kernel
theorem fits_bool (b : Bool) : Fits (.bool b) := ⟨by cases b <;> rfl, by cases b <;> decide +kernel, by simp only [PyData.depth]; omega, by cases b <;> rfl⟩
theorem fits_none : Fits .none := ⟨rfl, by decide +kernel, by simp only [PyData.depth]; omega, rfl⟩
end L2.Pu

set_option Elab.async false
set_option linter.all false
set_option maxRecDepth 100000
set_option maxHeartbeats 4000000
namespace L2.Pu
open PySem PySem.Spec PyProof.Rows
def spLawP : PSp := fun ss κ => ∃ ns : List Int, ss = [.scr ns] ∧ ns.length ≤ 63 ∧ κ (.bool true) [.un]
theorem rng_mem {d : PyData} {n : Nat} (h : d ∈ rngD 0 n) : ∃ i : Nat, d = .int i ∧ i < n := by
  unfold rngD at h
  obtain ⟨i, hi, rfl⟩ := List.mem_map.mp h
  exact ⟨i, by simp, List.mem_range.mp hi⟩
end L2.Pu

set_option Elab.async false
set_option linter.all false
set_option maxRecDepth 100000
set_option maxHeartbeats 4000000
namespace L2.Pu
open PySem PySem.Spec PyProof.Rows
section
variable {m : Man}
theorem clo_congr {a b : List Str} (h : ∀ x, x ∈ a ↔ x ∈ b) : clo m a = clo m b := by
  unfold clo
  refine List.filter_congr fun x _ => decide_eq_decide.mpr ⟨fun r => r.mono fun y hy => .base ((h y).mp hy), fun r => r.mono fun y hy => .base ((h y).mpr hy)⟩
theorem clo_app (W : Wf m) {a b : List Str} (ha : ∀ x ∈ a, x ∈ nms m) (hb : ∀ x ∈ b, x ∈ nms m) : clo m (clo m a ++ b) = clo m (a ++ b) := by
  have hab : ∀ x ∈ a ++ b, x ∈ nms m := fun x hx => (List.mem_append.mp hx).elim (ha x) (hb x)
  have hcb : ∀ x ∈ clo m a ++ b, x ∈ nms m := fun x hx => (List.mem_append.mp hx).elim (clo_in W x) (hb x)
  refine sorted_same (clo_asc W _) (clo_asc W _) fun x => ⟨clo_mono W hcb hab (fun y hy => ?_) x, clo_mono W hab hcb (fun y hy => ?_) x⟩
  · rcases List.mem_append.mp hy with z | z
    · exact clo_mono W ha hab (fun z hz => clo_self W hab (List.mem_append_left _ hz)) y z
    · exact clo_self W hab (List.mem_append_right _ z)
  · rcases List.mem_append.mp hy with z | z
    · exact clo_self W hcb (List.mem_append_left _ (clo_self W ha z))
    · exact clo_self W hcb (List.mem_append_right _ z)
theorem clo_app2 (W : Wf m) {a b : List Str} (ha : ∀ x ∈ a, x ∈ nms m) (hb : ∀ x ∈ b, x ∈ nms m) : clo m (a ++ clo m b) = clo m (a ++ b) := by
  rw [clo_congr (b := clo m b ++ a) (fun x => by rw [List.mem_append, List.mem_append]; exact Or.comm), clo_app W hb ha]
  exact clo_congr fun x => by rw [List.mem_append, List.mem_append]; exact Or.comm
end
theorem flatMap_filter {α β : Type} {p : α → Bool} {f : α → List β} : ∀ {l : List α}, (∀ x ∈ l, p x = false → f x = []) → (l.filter p).flatMap f = l.flatMap f
  | [], _ => rfl
  | a :: l, h => by
    have ih := flatMap_filter (p := p) (f := f) (l := l) fun x hx => h x (List.mem_cons_of_mem _ hx)
    rw [List.filter_cons, List.flatMap_cons]
    cases e : p a with
    | true => rw [if_pos rfl, List.flatMap_cons, ih]
    | false => rw [if_neg (by decide), ih, h a List.mem_cons_self e, List.nil_append]
/-- all requests -/
def reqsL (m : Man) : List (List Str) := sortR (subsD (nms m))
theorem mem_reqsL {m : Man} {r : List Str} : r ∈ reqsL m ↔ r.Sublist (nms m) := by unfold reqsL; rw [mem_sortR, subsD_sub]
theorem reqs_len (m : Man) : (reqsL m).length = 2 ^ m.length := by unfold reqsL; rw [sortR, List.length_mergeSort, subsD_len, List.length_map]
/-- what is lost at the request r when x is asked for, too -/
noncomputable def lostX (m : Man) (is : Its) (r : List Str) (x : Str) : List (Str × Int) := goneL (viewL is (clo m r)) (viewL is (clo m (r ++ [x])))
noncomputable def pairL (m : Man) (is : Its) : List (List Str × Str × Str) := (reqsL m).flatMap fun r => (nms m).flatMap fun x => (lostX m is r x).map fun p => (r, x, p.1)
noncomputable def pairL2 (m : Man) (is : Its) : List (List Str × Str × Str) := (reqsL m).flatMap fun r => (outL m (clo m r)).flatMap fun x => (stepG m is (clo m r) x).map fun p => (r, x, p.1)
theorem lost_step {m : Man} (W : Wf m) {is : Its} {r : List Str} (hr : ∀ y ∈ r, y ∈ nms m) {x : Str} (hx : x ∈ nms m) : stepG m is (clo m r) x = lostX m is r x := by
  unfold stepG lostX
  rw [clo_app W hr (fun y hy => by cases List.mem_singleton.mp hy; exact hx)]
theorem pair_same {m : Man} (W : Wf m) (is : Its) : pairL2 m is = pairL m is := by
  unfold pairL2 pairL
  have : ∀ l : List (List Str), (∀ r ∈ l, ∀ y ∈ r, y ∈ nms m) → (l.flatMap fun r => (outL m (clo m r)).flatMap fun x => (stepG m is (clo m r) x).map fun p => (r, x, p.1)) = l.flatMap fun r => (nms m).flatMap fun x => (lostX m is r x).map fun p => (r, x, p.1) := by
    intro l hl
    induction l with
    | nil => rfl
    | cons r l ih =>
      have hr := hl r List.mem_cons_self
      rw [List.flatMap_cons, List.flatMap_cons, ih fun r hr => hl r (List.mem_cons_of_mem _ hr)]
      congr 1
      have e1 : ((outL m (clo m r)).flatMap fun x => (stepG m is (clo m r) x).map fun p => (r, x, p.1)) = (nms m).flatMap fun x => (stepG m is (clo m r) x).map fun p => (r, x, p.1) := by
        unfold outL
        refine flatMap_filter fun x hx hp => ?_
        have hx' : x ∈ clo m r := by simpa using hp
        rw [step_in W (clo_closed W hr) hx']; rfl
      rw [e1]
      have : ∀ ys : List Str, (∀ y ∈ ys, y ∈ nms m) → (ys.flatMap fun x => (stepG m is (clo m r) x).map fun p => (r, x, p.1)) = ys.flatMap fun x => (lostX m is r x).map fun p => (r, x, p.1) := by
        intro ys hys
        induction ys with
        | nil => rfl
        | cons y ys ihy => rw [List.flatMap_cons, List.flatMap_cons, ihy fun y hy => hys y (List.mem_cons_of_mem _ hy), lost_step W hr (hys y List.mem_cons_self)]
      exact this _ fun y hy => hy
  exact this _ fun r hr y hy => (mem_reqsL.mp hr).subset hy
def optB : Option (List Str × Str × Str) → PyData
  | some b => brD b
  | none => .none
theorem mem_pairL {m : Man} {is : Its} {b : List Str × Str × Str} : b ∈ pairL m is ↔ b.1.Sublist (nms m) ∧ b.2.1 ∈ nms m ∧ b.2.2 ∈ (lostX m is b.1 b.2.1).map (·.1) := by
  unfold pairL
  rw [List.mem_flatMap]
  constructor
  · rintro ⟨c, hc, h⟩
    obtain ⟨x, hx, h⟩ := List.mem_flatMap.mp h
    obtain ⟨p, hp, rfl⟩ := List.mem_map.mp h
    exact ⟨mem_reqsL.mp hc, hx, List.mem_map.mpr ⟨p, hp, rfl⟩⟩
  · rintro ⟨hc, hx, h⟩
    obtain ⟨p, hp, e⟩ := List.mem_map.mp h
    refine ⟨b.1, mem_reqsL.mpr hc, List.mem_flatMap.mpr ⟨b.2.1, hx, List.mem_map.mpr ⟨p, hp, ?_⟩⟩⟩
    rw [e]
theorem GoodM.pairOk {m : Man} (g : GoodM m) {is : Its} (x : (is.map (·.1)).Sublist twelve) : ∀ b ∈ pairL m is, BrOk b := fun b hb => by
  obtain ⟨sc, hx, h3⟩ := mem_pairL.mp hb
  obtain ⟨p, hp, e⟩ := List.mem_map.mp h3
  have hi : b.2.2 ∈ twelve := by
    rw [← e]
    exact x.subset ((view_names _).subset (List.mem_map.mpr ⟨p, (mem_goneL.mp hp).1, rfl⟩))
  exact ⟨fun y hy => ⟨g.names y (sc.subset hy), g.ok y (sc.subset hy)⟩, Nat.le_trans sc.length_le g.few, ⟨g.names _ hx, g.ok _ hx⟩, twelve_len _ hi, (twelve_ok _ hi).2⟩
theorem fits_optB {o : Option (List Str × Str × Str)} (h : ∀ b, o = some b → BrOk b) : Fits (optB o) := by
  cases o with
  | none => exact fits_none
  | some b => exact (shows_br (h b rfl)).more (by omega) (by omega)
theorem head_flat {α β : Type} {f : α → List β} : ∀ {done : List α} {x : α} {rest : List α}, done.flatMap f = [] → f x ≠ [] → ((done ++ x :: rest).flatMap f).head? = (f x).head?
  | done, x, rest, h, hx => by
    rw [List.flatMap_append, h, List.nil_append, List.flatMap_cons]
    cases e : f x with
    | nil => exact absurd e hx
    | cons a l => rfl
/-! ### safe features -/
noncomputable def safeL (m : Man) (is : Its) : List Str := (nms m).filter fun x => !decide (x ∈ (breaksL m is).map (·.2.1))
theorem fits_tupS {r : List Str} (h : ∀ x ∈ r, (reprText x).length ≤ 10) (l : r.length ≤ 10) : Fits (tupS r) := (shows_tupS (n := 10) (m := 10) h l).more (by omega) (by omega)
theorem OkI.take {N : List Str} {is : Its} (h : OkI N is) (n : Nat) : OkI N (is.take n) := ⟨by rw [List.length_take]; have := h.few; omega, fun i hi => h.rows i (List.mem_of_mem_take hi), fun i hi => h.nam i (List.mem_of_mem_take hi)⟩
theorem LibX.take {is : Its} (h : LibX is) (n : Nat) : LibX (is.take n) := ⟨by rw [List.map_take]; exact (List.take_sublist _ _).trans h.names, fun i hi => h.rows i (List.mem_of_mem_take hi)⟩
end L2.Pu

set_option Elab.async false
set_option linter.all false
set_option maxRecDepth 100000
set_option maxHeartbeats 4000000
/-! ## Names that are forgotten ahead of a statement -/
namespace L2.Pu
open PySem PySem.Spec PyProof.Rows
theorem Rep.fgt1 {T : PK} {F : Fm} {ρ : Ro} {C : Hp} {σ : St} {H : Hp} (R : Rep T F ρ C σ H) (i : Nat) : Rep T F (ρ.set i .un) C σ H := by
  refine ⟨R.c0, R.sub, R.keep, R.tbl, R.htb, R.ctab, R.tabs, R.new, R.refd, R.sys, by rw [List.length_set, R.len], fun j t hj => ?_, fun j k q r r' o o' jk hj hk vj vk => ?_⟩
  · rcases getElem?_set' hj with ⟨rfl, rfl, hl⟩ | ⟨ne, hj⟩
    · trivial
    · exact R.slot j t hj
  · rcases getElem?_set' hj with ⟨_, e1, _⟩ | ⟨n1, hj⟩
    · cases e1
    · rcases getElem?_set' hk with ⟨_, e1, _⟩ | ⟨n2, hk⟩
      · cases e1
      · exact R.apart j k q r r' o o' jk hj hk vj vk
theorem Rep.fgt {T : PK} {F : Fm} {ρ : Ro} {C : Hp} {σ : St} {H : Hp} (R : Rep T F ρ C σ H) : ∀ vs : List Nat, Rep T F (wipeR ρ vs) C σ H
  | [] => R
  | v :: vs => (R.fgt vs).fgt1 v
def qFgt (vs : List Nat) (q : QS) : QS := fun κ ρ => q κ (wipeR ρ vs)
theorem qs_fgt {X : Cx} {τ : Tb} {st : Stmt} {q : QS} (vs : List Nat) (h : PQS τ X st q) : PQS τ X st (qFgt vs q) := by
  refine ps_imp _ h ?_
  rintro D σ H ⟨F, ρ, C, R, κ, k, z⟩
  exact ⟨F, _, C, R.fgt vs, κ, k, z⟩
/-! ### the way from one closed request to a greater one -/
theorem lost_way {m : Man} (W : Wf m) {is : Its} {c : List Str} (hc : c ∈ closedL m) {p : Str × Int} (hp : p ∈ viewL is c) (o : List Str) : (∀ x ∈ o, x ∈ nms m) → p ∉ viewL is (clo m (c ++ o)) → ∃ d ∈ closedL m, (∀ x ∈ c, x ∈ d) ∧ ∃ x ∈ outL m d, x ∈ o ∧ p ∈ stepG m is d x := by
  have ic : ∀ x ∈ c, x ∈ nms m := fun x hx => (closedL_sub W hc).subset hx
  refine snoc_ind (p := fun o => (∀ x ∈ o, x ∈ nms m) → p ∉ viewL is (clo m (c ++ o)) → ∃ d ∈ closedL m, (∀ x ∈ c, x ∈ d) ∧ ∃ x ∈ outL m d, x ∈ o ∧ p ∈ stepG m is d x) (fun _ hn => ?_) (fun o x ih ho hn => ?_) o
  · rw [List.append_nil, ((mem_closedL W).mp hc).2] at hn
    exact absurd hp hn
  · have io : ∀ y ∈ o, y ∈ nms m := fun y hy => ho y (List.mem_append_left _ hy)
    have ix : x ∈ nms m := ho x (List.mem_append_right _ List.mem_cons_self)
    have ico : ∀ y ∈ c ++ o, y ∈ nms m := fun y hy => (List.mem_append.mp hy).elim (ic y) (io y)
    by_cases h : p ∈ viewL is (clo m (c ++ o))
    · have hs : p ∈ stepG m is (clo m (c ++ o)) x := mem_goneL.mpr ⟨h, by rw [clo_app W ico (fun y hy => by cases List.mem_singleton.mp hy; exact ix), List.append_assoc]; exact hn⟩
      refine ⟨clo m (c ++ o), clo_closed W ico, fun y hy => clo_self W ico (List.mem_append_left _ hy), x, mem_outL.mpr ⟨ix, fun hx => ?_⟩, List.mem_append_right _ List.mem_cons_self, hs⟩
      rw [step_in W (clo_closed W ico) hx] at hs
      cases hs
    · obtain ⟨d, h1, h2, y, h3, h4, h5⟩ := ih io h
      exact ⟨d, h1, h2, y, h3, List.mem_append_left _ h4, h5⟩
theorem clo_above {m : Man} (W : Wf m) {c d : List Str} (hd : d ∈ closedL m) (h : ∀ x ∈ c, x ∈ d) : clo m (c ++ d) = d := by
  obtain ⟨sd, ed⟩ := (mem_closedL W).mp hd
  rw [clo_congr (b := d) fun x => by rw [List.mem_append]; exact ⟨fun z => z.elim (h x) id, .inr⟩, ed]
/-- a step from a closed request above r breaks something -/
def BrkAbove (m : Man) (is : Its) (r : List Str) : Prop := ∃ b ∈ breaksL m is, ∀ x ∈ r, x ∈ b.1
theorem brk_iff {m : Man} {is : Its} {r : List Str} : BrkAbove m is r ↔ ∃ c ∈ closedL m, (∀ x ∈ r, x ∈ c) ∧ ∃ x ∈ outL m c, stepG m is c x ≠ [] := by
  constructor
  · rintro ⟨b, hb, h⟩
    obtain ⟨h1, h2, h3⟩ := mem_breaksL.mp hb
    refine ⟨b.1, h1, h, b.2.1, h2, fun z => ?_⟩
    rw [z] at h3; cases h3
  · rintro ⟨c, hc, h, x, hx, ne⟩
    obtain ⟨p, hp⟩ := List.exists_mem_of_ne_nil _ ne
    exact ⟨(c, x, p.1), mem_breaksL.mpr ⟨hc, hx, List.mem_map.mpr ⟨p, hp, rfl⟩⟩, h⟩
theorem brk_lossy {m : Man} (W : Wf m) {is : Its} {r : List Str} : BrkAbove m is r ↔ ∃ c ∈ closedL m, (∀ x ∈ r, x ∈ c) ∧ ∃ d ∈ closedL m, (∀ x ∈ c, x ∈ d) ∧ goneL (viewL is c) (viewL is d) ≠ [] := by
  rw [brk_iff]
  constructor
  · rintro ⟨c, hc, h, x, hx, ne⟩
    have icx : ∀ y ∈ c ++ [x], y ∈ nms m := fun y hy => by
      rcases List.mem_append.mp hy with z | z
      · exact (closedL_sub W hc).subset z
      · cases List.mem_singleton.mp z; exact (mem_outL.mp hx).1
    exact ⟨c, hc, h, clo m (c ++ [x]), clo_closed W icx, fun y hy => clo_self W icx (List.mem_append_left _ hy), ne⟩
  · rintro ⟨c, hc, h, d, hd, hcd, ne⟩
    obtain ⟨p, hp⟩ := List.exists_mem_of_ne_nil _ ne
    obtain ⟨p1, p2⟩ := mem_goneL.mp hp
    obtain ⟨e, he, hce, x, hx, _, hs⟩ := lost_way W hc p1 d (fun y hy => (closedL_sub W hd).subset hy) (by rw [clo_above W hd hcd]; exact p2)
    exact ⟨e, he, fun y hy => hce y (h y hy), x, hx, List.ne_nil_of_mem hs⟩
theorem brk_all {m : Man} {is : Its} : ¬ BrkAbove m is (nms m) := fun h => by
  obtain ⟨c, hc, h, x, hx, _⟩ := brk_iff.mp h
  exact (mem_outL.mp hx).2 (h x (mem_outL.mp hx).1)
theorem brk_nil {m : Man} {is : Its} : BrkAbove m is [] ↔ breaksL m is ≠ [] := by
  constructor
  · rintro ⟨b, hb, _⟩; exact List.ne_nil_of_mem hb
  · intro h
    obtain ⟨b, hb⟩ := List.exists_mem_of_ne_nil _ h
    exact ⟨b, hb, (fun _ z => nomatch z)⟩
open Classical in
noncomputable def accB (m : Man) (is : Its) (r : List Str) : Bool := !decide (BrkAbove m is r)
noncomputable def accL (m : Man) (is : Its) : List (List Str) := (reqsL m).filter (accB m is)
theorem reqs_subs (m : Man) : (reqsL m) = sortR (subsD (nms m)) := rfl
/-- one name more, in order -/
def insS (r : List Str) (x : Str) : List Str := sortS (r ++ [x])
theorem mem_insS {r : List Str} {x y : Str} : y ∈ insS r x ↔ y ∈ r ∨ y = x := by
  unfold insS
  rw [mem_sortS, List.mem_append, List.mem_singleton]
theorem insS_asc {r : List Str} {x : Str} (h : r.Nodup) (hx : x ∉ r) : (insS r x).Pairwise ltS := by
  have nd : (insS r x).Nodup := (sortS_perm _).nodup_iff.mpr (List.nodup_append.mpr ⟨h, List.nodup_cons.mpr ⟨List.not_mem_nil, List.nodup_nil⟩, fun a ha b hb e => by cases List.mem_singleton.mp hb; exact hx (e ▸ ha)⟩)
  exact (List.Pairwise.and (sortS_pair _) nd).imp fun ⟨x, y⟩ => ⟨x, y⟩
theorem insS_sub {m : Man} (W : Wf m) {r : List Str} {x : Str} (hr : r.Sublist (nms m)) (hx : x ∈ nms m) (nx : x ∉ r) : (insS r x).Sublist (nms m) :=
  sub_of_asc (insS_asc ((asc_nodup W.asc).sublist hr) nx) W.asc fun y hy => (mem_insS.mp hy).elim (fun z => hr.subset z) (fun z => z ▸ hx)
end L2.Pu

set_option Elab.async false
set_option linter.all false
set_option maxRecDepth 100000
set_option maxHeartbeats 4000000
namespace L2.Pu
open PySem PySem.Spec PyProof.Rows
/-- pure turns: a turn tells what it adds, and leaves the state as it was -/
theorem lcL_gen {g : QG} {tt : QT} {te : QE} {vs : List Nat} {κ : List PyData → Ro → Prop} {ρ : Ro} (f : PyData → Option PyData) : ∀ (ds acc : List PyData),
    (∀ d ∈ ds, ∀ K : Option PyData → Ro → Prop, K (f d) ρ → g d ρ fun ρ1 => tt ρ1 fun b ρ2 => yn b (te ρ2 fun y ρ3 => K (some y) (wipeR ρ3 vs)) (K none (wipeR ρ2 vs))) → κ (acc ++ ds.filterMap f) ρ → lcL g tt te vs κ ds acc ρ
  | [], acc, _, k => by rw [List.filterMap_nil, List.append_nil] at k; exact k
  | d :: ds, acc, h, k => by
    let K : Option PyData → Ro → Prop := fun o ρ' => match o with
      | some y => (acc ++ [y] = acc ++ (f d).toList ∧ ρ' = ρ)
      | none => acc = acc ++ (f d).toList ∧ ρ' = ρ
    refine ⟨fun acc' ρ' => acc' = acc ++ (f d).toList ∧ ρ' = ρ, fun acc' ρ' h' => ?_, ?_⟩
    · obtain ⟨rfl, rfl⟩ := h'
      refine lcL_gen f ds _ (fun d hd => h d (List.mem_cons_of_mem _ hd)) ?_
      rw [List.filterMap_cons] at k
      rw [List.append_assoc]
      cases hf : f d with
      | none => rw [hf] at k; exact k
      | some y => rw [hf] at k; exact k
    · refine h d List.mem_cons_self K ?_
      show K (f d) ρ
      cases hf : f d with
      | none => show acc = acc ++ (f d).toList ∧ ρ = ρ; rw [hf]; exact ⟨(List.append_nil _).symm, rfl⟩
      | some y => show acc ++ [y] = acc ++ (f d).toList ∧ ρ = ρ; rw [hf]; exact ⟨rfl, rfl⟩
/-- the same over things of one kind -/
theorem lcL_of {α : Type} {g : QG} {tt : QT} {te : QE} {vs : List Nat} {κ : List PyData → Ro → Prop} {ρ : Ro} (c : α → PyData) (f : α → Option PyData) : ∀ (l : List α) (acc : List PyData),
    (∀ a ∈ l, ∀ K : Option PyData → Ro → Prop, K (f a) ρ → g (c a) ρ fun ρ1 => tt ρ1 fun b ρ2 => yn b (te ρ2 fun y ρ3 => K (some y) (wipeR ρ3 vs)) (K none (wipeR ρ2 vs))) → κ (acc ++ l.filterMap f) ρ → lcL g tt te vs κ (l.map c) acc ρ
  | [], acc, _, k => by rw [List.filterMap_nil, List.append_nil] at k; exact k
  | d :: ds, acc, h, k => by
    let K : Option PyData → Ro → Prop := fun o ρ' => match o with
      | some y => (acc ++ [y] = acc ++ (f d).toList ∧ ρ' = ρ)
      | none => acc = acc ++ (f d).toList ∧ ρ' = ρ
    refine ⟨fun acc' ρ' => acc' = acc ++ (f d).toList ∧ ρ' = ρ, fun acc' ρ' h' => ?_, ?_⟩
    · obtain ⟨rfl, rfl⟩ := h'
      refine lcL_of c f ds _ (fun d hd => h d (List.mem_cons_of_mem _ hd)) ?_
      rw [List.filterMap_cons] at k
      rw [List.append_assoc]
      cases hf : f d with
      | none => rw [hf] at k; exact k
      | some y => rw [hf] at k; exact k
    · refine h d List.mem_cons_self K ?_
      show K (f d) ρ
      cases hf : f d with
      | none => show acc = acc ++ (f d).toList ∧ ρ = ρ; rw [hf]; exact ⟨(List.append_nil _).symm, rfl⟩
      | some y => show acc ++ [y] = acc ++ (f d).toList ∧ ρ = ρ; rw [hf]; exact ⟨rfl, rfl⟩
/-- each thing gives one -/
theorem lcL_each {α : Type} {g : QG} {te : QE} {vs : List Nat} {κ : List PyData → Ro → Prop} {ρ : Ro} (c f : α → PyData) (l : List α)
    (h : ∀ a ∈ l, ∀ K : PyData → Ro → Prop, K (f a) ρ → g (c a) ρ fun ρ1 => te ρ1 fun y ρ3 => K y (wipeR ρ3 vs)) (k : κ (l.map f) ρ) : lcL g qYes te vs κ (l.map c) [] ρ := by
  refine lcL_of c (fun a => some (f a)) l [] (fun a ha K hK => ?_) (by rw [List.nil_append, List.filterMap_eq_map']; exact k)
  exact h a ha (fun y ρ => K (some y) ρ) hK
/-- each thing that passes gives one -/
theorem lcL_filt {α : Type} {g : QG} {tt : QT} {te : QE} {vs : List Nat} {κ : List PyData → Ro → Prop} {ρ : Ro} (c f : α → PyData) (p : α → Bool) (l : List α)
    (h : ∀ a ∈ l, ∀ K : Option PyData → Ro → Prop, K (if p a = true then some (f a) else none) ρ → g (c a) ρ fun ρ1 => tt ρ1 fun b ρ2 => yn b (te ρ2 fun y ρ3 => K (some y) (wipeR ρ3 vs)) (K none (wipeR ρ2 vs))) (k : κ ((l.filter p).map f) ρ) : lcL g tt te vs κ (l.map c) [] ρ := by
  refine lcL_of c (fun a => if p a = true then some (f a) else none) l [] h ?_
  have : l.filterMap (fun a => if p a = true then some (f a) else none) = (l.filter p).map f := by
    induction l with
    | nil => rfl
    | cons a l ih =>
      have ih' := ih (fun a ha => h a (List.mem_cons_of_mem _ ha))
      rw [List.filterMap_cons, List.filter_cons]
      cases e : p a with
      | true =>
        have := fun hk => ih' hk
        simp only [if_true, List.map_cons]
        congr 1
        clear this ih' ih k h
        induction l with
        | nil => rfl
        | cons b l ih =>
          rw [List.filterMap_cons, List.filter_cons]
          cases e : p b with
          | true => simp only [if_true, List.map_cons, ih]
          | false => simp only [Bool.false_eq_true, if_false, ih]
      | false =>
        simp only [Bool.false_eq_true, if_false]
        clear ih' ih k h
        induction l with
        | nil => rfl
        | cons b l ih =>
          rw [List.filterMap_cons, List.filter_cons]
          cases e : p b with
          | true => simp only [if_true, List.map_cons, ih]
          | false => simp only [Bool.false_eq_true, if_false, ih]
  rw [List.nil_append, this]
  exact k
theorem map_rowN (m : Man) : (m.map fun r => PyData.str r.1) = (nms m).map PyData.str := by rw [List.map_map]; rfl
end L2.Pu

set_option Elab.async false
set_option linter.all false
set_option maxRecDepth 100000
set_option maxHeartbeats 4000000
/-! ## sorted(t), t a tuple of texts -/
namespace L2.Pu
open PySem PySem.Spec PyProof.Rows
section
variable {prog : Program} {w : World} {A : Around} {E : Value → Shared → Prop} {s : Shared}
theorem gather_tup {t : Addr} {xs : List Value} {Q : List Value → Shared → Prop} (ht : IsTup s.heap t xs.toArray) (hz : xs.length ≤ sizeLine)
    (h : Q xs { s with heap := (s.heap.push (seqObj "list" #[] 0)).update s.heap.objs.size (Obj.mapSeq (· ++ xs.toArray)) }) : wpAny (model prog w) A (collect (.ref t)) Q E s := by
  obtain ⟨o, ho, hc, n, hd⟩ := id ht
  unfold collect
  refine wpAny_bind (wpAny_runValue (codeAny_builtin entry_proto_collect' ?_))
  refine wpAny_bind (m := newList []) (wpAny_newList (wpAny_pure ⟨Code.quiet_builtin _ (by decide +kernel), codeAny_builtin entry_list_iadd' ?_⟩))
  show wpAny (model prog w) _ (Builtin.List.listExtendWith (.ref s.heap.objs.size) (.ref t) (.ref s.heap.objs.size)) _ _ ({ s with heap := s.heap.push (seqObj "list" #[] 0) } : Shared)
  unfold Builtin.List.listExtendWith
  have ho1 : (s.heap.push (seqObj "list" #[] 0)).get? t = some o := Heap.get?_push_of_some _ ho
  refine wpAny_bind (wpAny_typeOf (T := "tuple") ⟨o, ho1, hc⟩ ?_)
  have tt : (Value.type "tuple" == Value.type "tuple") = true := by rfl
  rw [if_pos (by rw [tt, Bool.or_true])]
  refine wpAny_bind (listItems_at ho1 hd ?_)
  refine wpAny_bind (listItems_at (xs := #[]) (n := 0) (Heap.get?_push_size _ rfl) rfl ?_)
  rw [if_neg (by simp)]
  have few : (#[] ++ xs.toArray).size ≤ sizeLine + 1 := by
    rw [Array.size_append, List.size_toArray, List.size_toArray]
    show 0 + _ ≤ _
    omega
  refine wpAny_bind (listUpdate_at (xs := #[]) (n := 0) (Heap.get?_push_size _ rfl) rfl ?_ (Nat.zero_le _) few)
  refine wpAny_pure ?_
  refine wpAny_bind (m := load s.heap.objs.size) (wpAny_load (get?_update_seq (Heap.get?_push_size _ rfl) _) ?_)
  have e : ((#[] : Array Value) ++ xs.toArray).toList = xs := by simp
  show wpAny (model prog w) A (pure ((#[] : Array Value) ++ xs.toArray).toList) Q E _
  rw [e]
  exact wpAny_pure h
end
section
variable {X : Cx}
def rSortTup (K : PySem.W.Frag) : RN := fun vs H Q => ∃ (a : Addr) (ks : List Str), vs = [V.ref a] ∧ SqT K H a (ks.map V.str) ∧ ks.length < 64 ∧ ∀ ys p, ys.Perm ks → sortedS ys = true → H p = none → Q (.ref p) (upd H p (.lst (ys.map V.str)))
theorem call_sortTup : CallR X (.builtin "sorted") (rSortTup X.K) := by
  intro pins s σ H xs us Q I r q
  obtain ⟨a, ks, rfl, hq, h64, q⟩ := q
  obtain ⟨u, rfl, rx⟩ := vals1 r
  cases rx
  obtain ⟨its, rv, it, hz⟩ := I.tuple hq
  have hS : StrsAre its ks := rv.strs
  have ln : its.length = ks.length := by have := rv.length; rw [List.length_map] at this; exact this.symm
  have l16 : its.length ≤ sizeLine := by rw [ln, sizeLine_eq]; omega
  refine Calls.call_function_entry PyProof.Rows.kind_sorted PyProof.Rows.plain_sorted PyProof.Rows.entry_sorted (PyProof.Rows.args_sorted1 _) ?_
  unfold Builtin.«sorted»
  refine wpAny_bind (m := checkCount "sorted" 1 1 _) (wpAny_pure ?_)
  refine wpAny_bind (gather_tup it l16 ?_)
  generalize hh : (s.heap.push (seqObj "list" #[] 0)).update s.heap.objs.size (Obj.mapSeq (· ++ its.toArray)) = h1
  have keep : ∀ b o, s.heap.get? b = some o → h1.get? b = some o := fun b o e => by
    rw [← hh, Heap.get?_update_ne _ _ _ _ (Nat.ne_of_lt (Heap.lt_size e))]
    exact Heap.get?_push_of_some _ e
  have I1 : Inv X pins σ H { s with heap := h1 } := I.kept (t' := s.toks) keep
  refine wpAny_bind (wpAny_newList ?_ l16)
  have hoL : (h1.push (seqObj "list" its.toArray 0)).get? h1.objs.size = some (seqObj "list" its.toArray 0) := Heap.get?_push_size _ rfl
  show wpAny _ _ _ _ _ ({ s with heap := h1.push (seqObj "list" its.toArray 0) } : Shared)
  refine wpAny_bind (wpAny_holding (wpAny_call_entry PyProof.Rows.slot_list_sort ⟨_, hoL, rfl⟩ PyProof.Rows.entry_list_sort
    (list_sort_treeK strKind_oneLt (s := { s with heap := h1.push (seqObj "list" its.toArray 0) }) hoL hS.keysOf (fun v₁ v₂ rest e => keyKind_strs (by rw [← e]; exact hS)) (by rw [ln]; exact h64) fun st1 hp hs => ⟨_, rfl, ?_⟩)
    (PyProof.Rows.args_list_sort _)))
  obtain ⟨ys, g1, g2, g3⟩ := sorted_out_str hS hp hs
  obtain ⟨e1, he1⟩ := PyProof.Rows.sortedHeap_at (vs := its) (out := (arrOf st1).map (·.2)) hoL
  have ly : (ys.map V.str).length ≤ sizeLine := by
    rw [List.length_map, g2.length_eq]
    exact Nat.le_trans (Nat.le_of_lt h64) (by decide)
  have old : ∀ b u, h1.get? b = some u → (PyProof.Rows.sortedHeap (h1.push (seqObj "list" its.toArray 0)) h1.objs.size its ((arrOf st1).map (·.2))).get? b = some u := fun b u e => by
    have hb : b < h1.objs.size := Heap.lt_size e
    rw [PyProof.Rows.sortedHeap_old (Nat.ne_of_lt hb) (by rw [size_push']; exact Nat.lt_succ_of_lt hb)]
    exact Heap.get?_push_of_some _ e
  refine wpAny_pure ⟨_, rfl, .ref h1.objs.size, upd H h1.objs.size (.lst (ys.map V.str)), I1.laid (t' := s.toks) old (Nat.le_refl _) ?_, rfl, q ys _ g2 g3 (I1.hok.fresh (Nat.le_refl _))⟩
  exact ⟨ly, ((arrOf st1).map (·.2)).toList, e1, vals_of_strs g1, by rw [Array.toArray_toList]; exact he1⟩
end
section
variable {X : Cx} {τ : Tb} {pos p : Pos} {e : Expr} {es : List Expr}
def sortTF : DF := fun ds P => match ds with
  | [.tuple xs] => ∃ ts : List Str, xs = ts.map PyData.str ∧ ts.length < 64 ∧ P (.lst ((sortS ts).map PyData.str))
  | _ => False
theorem ok_sortT : OkF τ X (rSortTup X.K) sortTF := by
  intro F ρ C σ H vs ds P Q R a h z
  cases a with
  | nil => exact False.elim h
  | cons a t =>
    cases t with
    | cons => cases a <;> exact False.elim h
    | nil =>
      cases a with
      | tup e nd ha =>
        obtain ⟨ts, rfl, hl, h⟩ := h
        rw [strs_of ha] at e
        refine ⟨_, ts, rfl, sqF (R.sub _ _ e), hl, fun ys p py sy np => ?_⟩
        rw [sortS_of py sy]
        exact z _ _ _ h np ⟨_, upd_same, da_strs _⟩
      | _ => exact False.elim h
theorem qf_sortedT {as : List BArg} (hg : Gl X "sorted") (hm : X.mg "sorted" = none) (ha : PQB τ X (e :: es) as) (he : starEach (e :: es) X.env = (false, eval e X.env) :: starEach es X.env := by rfl) (hpl : (backTo pos (starEach es X.env)).any (·.1) = false := by rfl) :
    PQF τ X (.Call (.Name "sorted" p) (e :: es) [] pos) (qBltF sortTF as) := qf_blt call_sortTup ok_sortT hg hm (by decide +kernel) ha (by decide) (by decide) he hpl
/-! ### min and max of a list of whole numbers -/
def minD (up : Bool) : DN := fun ds P => match ds with
  | [.list xs] => ∃ ns : List Int, xs = ns.map PyData.int ∧ 0 < ns.length ∧ ∀ m ∈ ns, (∀ y ∈ ns, if up = true then y ≤ m else m ≤ y) → P (.int m)
  | _ => False
theorem ok_min : OkN τ X (rMin X.K) (minD false) := by
  intro F ρ C σ H vs ds P Q R a h z
  cases a with
  | nil => exact False.elim h
  | cons a t =>
    cases t with
    | cons => cases a <;> exact False.elim h
    | nil =>
      cases a with
      | lst e ha =>
        obtain ⟨ns, rfl, hl, h⟩ := h
        rw [ints_of ha] at e
        exact ⟨_, ns, rfl, SqL.of e, hl, fun m h1 h2 => okq R z (h m h1 fun y hy => h2 y hy) (.int m)⟩
      | _ => exact False.elim h
theorem ok_max : OkN τ X (rMax X.K) (minD true) := by
  intro F ρ C σ H vs ds P Q R a h z
  cases a with
  | nil => exact False.elim h
  | cons a t =>
    cases t with
    | cons => cases a <;> exact False.elim h
    | nil =>
      cases a with
      | lst e ha =>
        obtain ⟨ns, rfl, hl, h⟩ := h
        rw [ints_of ha] at e
        exact ⟨_, ns, rfl, SqL.of e, hl, fun m h1 h2 => okq R z (h m h1 fun y hy => h2 y hy) (.int m)⟩
      | _ => exact False.elim h
theorem qe_min {as : List BArg} (hc : X.calm = true) (hg : Gl X "min") (hm : X.mg "min" = none) (ha : PQB τ X (e :: es) as) (he : starEach (e :: es) X.env = (false, eval e X.env) :: starEach es X.env := by rfl) (hpl : (backTo pos (starEach es X.env)).any (·.1) = false := by rfl) :
    PQ τ X (.Call (.Name "min" p) (e :: es) [] pos) (qBlt (minD false) as) := qe_blt (cr_min hc) ok_min hg hm (by decide +kernel) ha (by decide) (by decide) he hpl
theorem qe_max {as : List BArg} (hc : X.calm = true) (hg : Gl X "max") (hm : X.mg "max" = none) (ha : PQB τ X (e :: es) as) (he : starEach (e :: es) X.env = (false, eval e X.env) :: starEach es X.env := by rfl) (hpl : (backTo pos (starEach es X.env)).any (·.1) = false := by rfl) :
    PQ τ X (.Call (.Name "max" p) (e :: es) [] pos) (qBlt (minD true) as) := qe_blt (cr_max hc) ok_max hg hm (by decide +kernel) ha (by decide) (by decide) he hpl
end
end L2.Pu

set_option Elab.async false
set_option linter.all false
set_option maxRecDepth 100000
set_option maxHeartbeats 4000000
/-! ## Who loses something by whom -/
namespace L2.Pu
open PySem PySem.Spec PyProof.Rows
abbrev RR := List Str × List Str
def ppD (q : RR) : PyData := .tuple [tupS q.1, tupS q.2]
theorem eqv_ppD (p q : RR) : PyData.eqv (ppD p) (ppD q) = decide (p = q) := by
  unfold ppD
  simp only [PyData.eqv, PyData.eqvAll, Bool.and_true]
  rw [eqv_tupS, eqv_tupS, Bool.eq_iff_iff, Bool.and_eq_true, decide_eq_true_iff, decide_eq_true_iff, decide_eq_true_iff]
  exact ⟨fun h => Prod.ext h.1 h.2, fun h => by rw [h]; exact ⟨rfl, rfl⟩⟩
theorem any_eqv_pp (x : RR) : ∀ rs : List RR, (rs.map ppD).any (fun z => PyData.eqv z (ppD x)) = decide (x ∈ rs)
  | [] => by simp
  | y :: r => by
    rw [List.map_cons, List.any_cons, any_eqv_pp x r, eqv_ppD]
    rw [Bool.eq_iff_iff, Bool.or_eq_true, decide_eq_true_iff, decide_eq_true_iff, decide_eq_true_iff, List.mem_cons]
    exact or_congr ⟨Eq.symm, Eq.symm⟩ Iff.rfl
theorem lay_pp {q : RR} (h : okS q.1 ∧ okS q.2) : PyData.canLay0 (ppD q) = true := by
  unfold ppD tupS
  rw [PyData.canLay0, PyData.canLayAll0, PyData.canLayAll0, PyData.canLayAll0, PyData.canLay0, PyData.canLay0, lay_strs h.1, lay_strs h.2]; rfl
theorem lay_pps : ∀ {qs : List RR}, (∀ q ∈ qs, okS q.1 ∧ okS q.2) → PyData.canLayAll0 (qs.map ppD) = true
  | [], _ => rfl
  | q :: qs, h => by
    rw [List.map_cons, PyData.canLayAll0, lay_pp (h q List.mem_cons_self), lay_pps fun y hy => h y (List.mem_cons_of_mem _ hy)]; rfl
theorem depth_pp (q : RR) : PyData.depth (ppD q) = 2 := by
  simp only [ppD, tupS, PyData.depth, PyData.depthAll, depth_strs]; decide
theorem depth_pps : ∀ qs : List RR, PyData.depthAll (qs.map ppD) ≤ 2
  | [] => Nat.zero_le _
  | q :: qs => by
    have := depth_pps qs
    rw [List.map_cons, PyData.depthAll, depth_pp]
    exact Nat.max_le.mpr ⟨Nat.le_refl _, this⟩
theorem shp_pps {qs : List RR} (h : ∀ q ∈ qs, okS q.1 ∧ okS q.2) : Shp (.list (qs.map ppD)) := by
  have d := depth_pps qs
  show SeqAt.shaped _ = true
  unfold SeqAt.shaped
  rw [Bool.and_eq_true]
  exact ⟨by rw [PyData.canLay0]; exact lay_pps h, decide_eq_true (by simp only [PyData.depth]; omega)⟩
theorem shp_pp {q : RR} (h : okS q.1 ∧ okS q.2) : Shp (ppD q) := by
  show SeqAt.shaped _ = true
  unfold SeqAt.shaped
  rw [Bool.and_eq_true]
  exact ⟨lay_pp h, decide_eq_true (by rw [depth_pp]; omega)⟩
/-- what one loses by other -/
noncomputable def loseL (m : Man) (is : Its) (one other : List Str) : List (Str × Int) := goneL (viewL is (clo m one)) (viewL is (clo m (one ++ other)))
noncomputable def lossyR (m : Man) (is : Its) (one : List Str) : List RR := ((reqsL m).filter fun o => !decide (loseL m is one o = [])).map fun o => (one, o)
noncomputable def lossyL (m : Man) (is : Its) : List RR := (reqsL m).flatMap (lossyR m is)
theorem mem_lossyL {m : Man} {is : Its} {q : RR} : q ∈ lossyL m is ↔ q.1.Sublist (nms m) ∧ q.2.Sublist (nms m) ∧ loseL m is q.1 q.2 ≠ [] := by
  unfold lossyL lossyR
  rw [List.mem_flatMap]
  constructor
  · rintro ⟨a, ha, h⟩
    obtain ⟨o, ho, rfl⟩ := List.mem_map.mp h
    obtain ⟨h1, h2⟩ := List.mem_filter.mp ho
    rw [Bool.not_eq_true', decide_eq_false_iff_not] at h2
    exact ⟨mem_reqsL.mp ha, mem_reqsL.mp h1, h2⟩
  · rintro ⟨h1, h2, h3⟩
    refine ⟨q.1, mem_reqsL.mpr h1, List.mem_map.mpr ⟨q.2, List.mem_filter.mpr ⟨mem_reqsL.mpr h2, ?_⟩, rfl⟩⟩
    rw [Bool.not_eq_true', decide_eq_false_iff_not]; exact h3
theorem lossy_break {m : Man} (W : Wf m) {is : Its} : lossyL m is = [] ↔ breaksL m is = [] := by
  constructor
  · intro h
    refine List.eq_nil_iff_forall_not_mem.mpr fun b hb => ?_
    obtain ⟨h1, h2, h3⟩ := mem_breaksL.mp hb
    have hx := (mem_outL.mp h2).1
    have : (b.1, [b.2.1]) ∈ lossyL m is := mem_lossyL.mpr ⟨closedL_sub W h1, List.singleton_sublist.mpr hx, fun z => by
      unfold loseL at z
      rw [((mem_closedL W).mp h1).2] at z
      have z' : stepG m is b.1 b.2.1 = [] := z
      rw [z'] at h3; cases h3⟩
    rw [h] at this; cases this
  · intro h
    refine List.eq_nil_iff_forall_not_mem.mpr fun q hq => ?_
    obtain ⟨h1, h2, h3⟩ := mem_lossyL.mp hq
    obtain ⟨p, hp⟩ := List.exists_mem_of_ne_nil _ h3
    obtain ⟨p1, p2⟩ := mem_goneL.mp hp
    have i1 : ∀ y ∈ q.1, y ∈ nms m := fun y hy => h1.subset hy
    have i2 : ∀ y ∈ q.2, y ∈ nms m := fun y hy => h2.subset hy
    obtain ⟨d, d1, _, x, hx, _, hs⟩ := lost_way W (clo_closed W i1) p1 q.2 i2 (by rw [clo_app W i1 i2]; exact p2)
    have : (d, x, p.1) ∈ breaksL m is := mem_breaksL.mpr ⟨d1, hx, List.mem_map.mpr ⟨p, hs, rfl⟩⟩
    rw [h] at this; cases this
theorem pair_lossy {m : Man} {is : Its} {b : List Str × Str × Str} (h : b ∈ pairL m is) : (b.1, [b.2.1]) ∈ lossyL m is := by
  obtain ⟨h1, h2, h3⟩ := mem_pairL.mp h
  exact mem_lossyL.mpr ⟨h1, List.singleton_sublist.mpr h2, fun z => by have z' : lostX m is b.1 b.2.1 = [] := z; rw [z'] at h3; cases h3⟩
theorem lossy_pair {m : Man} (W : Wf m) {is : Its} : lossyL m is = [] ↔ pairL m is = [] := by
  constructor
  · intro h
    refine List.eq_nil_iff_forall_not_mem.mpr fun b hb => ?_
    have := pair_lossy hb
    rw [h] at this; cases this
  · intro h
    rw [lossy_break W]
    refine List.eq_nil_iff_forall_not_mem.mpr fun b hb => ?_
    obtain ⟨h1, h2, h3⟩ := mem_breaksL.mp hb
    have : b ∈ pairL m is := mem_pairL.mpr ⟨closedL_sub W h1, (mem_outL.mp h2).1, by
      have e : lostX m is b.1 b.2.1 = stepG m is b.1 b.2.1 := by unfold lostX stepG; rw [((mem_closedL W).mp h1).2]
      rw [e]; exact h3⟩
    rw [h] at this; cases this
theorem lossy_one {m : Man} {is : Its} {q : RR} (h : q ∈ lossyL m is) {x : Str} (e : q.2 = [x]) : ∃ i, (q.1, x, i) ∈ pairL m is := by
  obtain ⟨h1, h2, h3⟩ := mem_lossyL.mp h
  rw [e] at h2 h3
  obtain ⟨p, hp⟩ := List.exists_mem_of_ne_nil _ h3
  exact ⟨p.1, mem_pairL.mpr ⟨h1, List.singleton_sublist.mp h2, List.mem_map.mpr ⟨p, hp, rfl⟩⟩⟩
theorem pairwise_all {α : Type} {R : α → α → Prop} : ∀ {l : List α}, (∀ x ∈ l, ∀ y ∈ l, R x y) → l.Pairwise R
  | [], _ => .nil
  | a :: l, h => .cons (fun y hy => h a List.mem_cons_self y (List.mem_cons_of_mem _ hy)) (pairwise_all fun x hx y hy => h x (List.mem_cons_of_mem _ hx) y (List.mem_cons_of_mem _ hy))
theorem pair_sorted (m : Man) (is : Its) : (pairL m is).Pairwise fun a b => a.1.length ≤ b.1.length := by
  unfold pairL
  rw [List.pairwise_flatMap]
  have one : ∀ r : List Str, ∀ b ∈ ((nms m).flatMap fun x => (lostX m is r x).map fun p => (r, x, p.1)), b.1 = r := fun r b hb => by
    obtain ⟨x, _, hb⟩ := List.mem_flatMap.mp hb
    obtain ⟨p, _, rfl⟩ := List.mem_map.mp hb
    rfl
  refine ⟨fun r _ => pairwise_all fun a ha b hb => by rw [one r a ha, one r b hb]; exact Nat.le_refl _, ?_⟩
  exact (sortR_pair _).imp fun {r q} h a ha b hb => by rw [one r a ha, one q b hb]; exact leR_len h
theorem pair_least {m : Man} {is : Its} {b : List Str × Str × Str} (h : (pairL m is).head? = some b) : b ∈ pairL m is ∧ ∀ c ∈ pairL m is, b.1.length ≤ c.1.length := by
  have hp := pair_sorted m is
  cases e : pairL m is with
  | nil => rw [e] at h; cases h
  | cons a l =>
    rw [e] at h hp
    cases h
    refine ⟨List.mem_cons_self, fun c hc => ?_⟩
    rcases List.mem_cons.mp hc with rfl | hc
    · exact Nat.le_refl _
    · exact (List.pairwise_cons.mp hp).1 c hc
end L2.Pu

set_option Elab.async false
set_option linter.all false
set_option maxRecDepth 100000
set_option maxHeartbeats 4000000
/-! ## Users -/
namespace L2.Pu
open PySem PySem.Spec PyProof.Rows
abbrev Us := Str × List Str × List Str
def usD (u : Us) : PyData := .tuple [.str u.1, tupS u.2.1, tupS u.2.2]
def eight : List Str := ["ann", "bob", "cy", "d", "eve", "f", "user", "zoe"]
theorem eight_asc : eight.Pairwise ltS := by decide +kernel
theorem eight_name : ∀ x ∈ eight, nameS x = true := by decide +kernel
theorem eight_len : ∀ x ∈ eight, (reprText x).length ≤ 10 := by decide +kernel
theorem eight_lay : ∀ x ∈ eight, PyData.canLay0 (.str x) = true := by decide +kernel
theorem twelve_name : ∀ x ∈ twelve, nameS x = true := by decide +kernel
/-- names of users that may stand -/
structure NamesOk (l : List Str) : Prop where
  asc : l.Pairwise ltS
  nam : ∀ x ∈ l, nameS x = true
  len : ∀ x ∈ l, (reprText x).length ≤ 10
  lay : ∀ x ∈ l, PyData.canLay0 (.str x) = true
theorem eight_ok : NamesOk eight := ⟨eight_asc, eight_name, eight_len, eight_lay⟩
theorem NamesOk.sub {a b : List Str} (h : NamesOk b) (s : a.Sublist b) : NamesOk a := ⟨h.asc.sublist s, fun x hx => h.nam x (s.subset hx), fun x hx => h.len x (s.subset hx), fun x hx => h.lay x (s.subset hx)⟩
/-- a user of the library -/
structure UsOk (m : Man) (is : Its) (u : Us) : Prop where
  req : u.2.1.Sublist (nms m)
  its : u.2.2.Sublist ((viewL is (clo m u.2.1)).map (·.1))
structure GoodU (m : Man) (is : Its) (us : List Us) : Prop where
  names : NamesOk (us.map (·.1))
  ok : ∀ u ∈ us, UsOk m is u
  few : us.length ≤ 8
theorem GoodU.sub {m : Man} {is : Its} {us vs : List Us} (h : GoodU m is us) (s : vs.Sublist us) : GoodU m is vs := ⟨h.names.sub (s.map _), fun u hu => h.ok u (s.subset hu), Nat.le_trans s.length_le h.few⟩
/-- all that they ask for -/
def unL (us : List Us) : List Str := us.flatMap (·.2.1)
theorem GoodU.un_in {m : Man} {is : Its} {us : List Us} (h : GoodU m is us) : ∀ x ∈ unL us, x ∈ nms m := fun x hx => by
  obtain ⟨u, hu, hx⟩ := List.mem_flatMap.mp hx
  exact (h.ok u hu).req.subset hx
theorem GoodU.un_len {m : Man} {is : Its} {us : List Us} (h : GoodU m is us) (g : (nms m).length ≤ 10) : (unL us).length ≤ 80 := by
  have := flatMap_len (n := 10) (fun u : Us => u.2.1) us fun u hu => Nat.le_trans (h.ok u hu).req.length_le g
  have := h.few
  unfold unL
  omega
abbrev Cl := Str × Str × Int
def clD (c : Cl) : PyData := .tuple [.str c.1, .str c.2.1, .int c.2.2]
def niD (c : Str × Str) : PyData := .tuple [.str c.1, .str c.2]
/-- what a user relies on -/
def relP (is : Its) (m : Man) (u : Us) (S : List Str) : List (Str × Int) := (viewL is S).filter fun p => decide (p.1 ∈ u.2.2)
noncomputable def claimU (m : Man) (is : Its) (u : Us) : List Cl := (relP is m u (clo m u.2.1)).map fun p => (u.1, p.1, p.2)
noncomputable def claimsL (m : Man) (is : Its) (us : List Us) : List Cl := us.flatMap (claimU m is)
def lostC (cs : List Cl) (there : List (Str × Int)) : List (Str × Str) := (cs.filter fun c => !decide (c.2 ∈ there)).map fun c => (c.1, c.2.1)
noncomputable def lossesL (m : Man) (is : Its) (us : List Us) : List (Str × Str) := lostC (claimsL m is us) (viewL is (clo m (unL us)))
/-- the same, user by user -/
noncomputable def lossU (m : Man) (is : Its) (there : List (Str × Int)) (u : Us) : List (Str × Str) := ((relP is m u (clo m u.2.1)).filter fun p => !decide (p ∈ there)).map fun p => (u.1, p.1)
theorem lostC_app (a b : List Cl) (t : List (Str × Int)) : lostC (a ++ b) t = lostC a t ++ lostC b t := by
  unfold lostC
  rw [List.filter_append, List.map_append]
theorem lostC_claim (m : Man) (is : Its) (t : List (Str × Int)) (u : Us) : lostC (claimU m is u) t = lossU m is t u := by
  unfold lostC claimU lossU
  rw [List.filter_map, List.map_map]
  rfl
theorem losses_flat (m : Man) (is : Its) (us : List Us) (t : List (Str × Int)) : lostC (claimsL m is us) t = us.flatMap (lossU m is t) := by
  unfold claimsL
  induction us with
  | nil => rfl
  | cons u us ih => rw [List.flatMap_cons, lostC_app, ih, List.flatMap_cons, lostC_claim]
/-- what is relied on, by the names -/
theorem rel_names {m : Man} {is : Its} (asc : (is.map (·.1)).Pairwise ltS) {u : Us} (h : UsOk m is u) : (relP is m u (clo m u.2.1)).map (·.1) = u.2.2 := by
  have va := view_asc asc (clo m u.2.1)
  refine sorted_same (va.sublist (List.filter_sublist.map _)) (va.sublist h.its) fun x => ?_
  rw [List.mem_map]
  constructor
  · rintro ⟨p, hp, rfl⟩
    exact of_decide_eq_true (List.mem_filter.mp hp).2
  · intro hx
    obtain ⟨p, hp, rfl⟩ := List.mem_map.mp (h.its.subset hx)
    exact ⟨p, List.mem_filter.mpr ⟨hp, decide_eq_true hx⟩, rfl⟩
theorem rel_sub (m : Man) (is : Its) (u : Us) (S : List Str) : (relP is m u S).Sublist (viewL is S) := List.filter_sublist
theorem lossU_alone (m : Man) (is : Its) (u : Us) : lossU m is (viewL is (clo m u.2.1)) u = [] := by
  unfold lossU
  rw [List.map_eq_nil_iff, List.filter_eq_nil_iff]
  intro p hp
  rw [decide_eq_true ((rel_sub m is u _).subset hp)]; decide
theorem losses_alone (m : Man) (is : Its) {us : List Us} (h : us.length ≤ 1) : lossesL m is us = [] := by
  unfold lossesL
  rw [losses_flat]
  match us, h with
  | [], _ => rfl
  | [u], _ =>
    have e : unL [u] = u.2.1 := by unfold unL; simp
    rw [e, List.flatMap_cons, lossU_alone]; rfl
/-! ### comparing, showing -/
theorem eqv_niD (p q : Str × Str) : PyData.eqv (niD p) (niD q) = decide (p = q) := by
  unfold niD
  simp only [PyData.eqv, PyData.eqvAll, Bool.and_true]
  rw [Bool.eq_iff_iff, Bool.and_eq_true, decide_eq_true_iff]
  constructor
  · rintro ⟨a, b⟩
    exact Prod.ext (by simpa using a) (by simpa using b)
  · rintro rfl
    exact ⟨by simp, by simp⟩
theorem lay_ni {p : Str × Str} (h : PyData.canLay0 (.str p.1) = true ∧ PyData.canLay0 (.str p.2) = true) : PyData.canLay0 (niD p) = true := by
  unfold niD
  rw [PyData.canLay0, PyData.canLayAll0, PyData.canLayAll0, PyData.canLayAll0, h.1, h.2]; rfl
theorem lay_nis : ∀ {ps : List (Str × Str)}, (∀ p ∈ ps, PyData.canLay0 (.str p.1) = true ∧ PyData.canLay0 (.str p.2) = true) → PyData.canLayAll0 (ps.map niD) = true
  | [], _ => rfl
  | p :: ps, h => by
    rw [List.map_cons, PyData.canLayAll0, lay_ni (h p List.mem_cons_self), lay_nis fun q hq => h q (List.mem_cons_of_mem _ hq)]; rfl
theorem depth_nis : ∀ ps : List (Str × Str), PyData.depthAll (ps.map niD) ≤ 1
  | [] => Nat.zero_le _
  | p :: ps => by
    have := depth_nis ps
    simp only [List.map_cons, PyData.depthAll, niD, PyData.depth] at this ⊢
    exact Nat.max_le.mpr ⟨by decide, this⟩
theorem shp_nis {ps : List (Str × Str)} (h : ∀ p ∈ ps, PyData.canLay0 (.str p.1) = true ∧ PyData.canLay0 (.str p.2) = true) : Shp (.list (ps.map niD)) ∧ Shp (.tuple (ps.map niD)) := by
  have d := depth_nis ps
  have l := lay_nis h
  constructor
  · show SeqAt.shaped _ = true
    unfold SeqAt.shaped
    rw [Bool.and_eq_true]
    exact ⟨by rw [PyData.canLay0]; exact l, decide_eq_true (by simp only [PyData.depth]; omega)⟩
  · show SeqAt.shaped _ = true
    unfold SeqAt.shaped
    rw [Bool.and_eq_true]
    exact ⟨by rw [PyData.canLay0]; exact l, decide_eq_true (by simp only [PyData.depth]; omega)⟩
/-- a name and an item that can be shown and compared -/
structure NiOk (p : Str × Str) : Prop where
  n : (reprText p.1).length ≤ 10 ∧ PyData.canLay0 (.str p.1) = true
  i : (reprText p.2).length ≤ 10 ∧ PyData.canLay0 (.str p.2) = true
theorem loss_ok {m : Man} {is : Its} {us : List Us} (h : GoodU m is us) (x : LibX is) (t : List (Str × Int)) : ∀ p ∈ us.flatMap (lossU m is t), NiOk p := fun p hp => by
  obtain ⟨u, hu, hp⟩ := List.mem_flatMap.mp hp
  obtain ⟨q, hq, rfl⟩ := List.mem_map.mp hp
  have hq := (rel_sub m is u _).subset (List.mem_filter.mp hq).1
  have h12 : q.1 ∈ twelve := x.names.subset ((view_names _).subset (List.mem_map.mpr ⟨q, hq, rfl⟩))
  have hn : u.1 ∈ us.map (·.1) := List.mem_map.mpr ⟨u, hu, rfl⟩
  exact ⟨⟨h.names.len _ hn, h.names.lay _ hn⟩, twelve_len _ h12, (twelve_ok _ h12).2⟩
theorem loss_len {m : Man} {is : Its} {us : List Us} (h : us.length ≤ 8) (f : is.length ≤ 12) (t : List (Str × Int)) : (us.flatMap (lossU m is t)).length ≤ 96 := by
  have := flatMap_len (n := 12) (lossU m is t) us fun u _ => by
    unfold lossU
    rw [List.length_map]
    refine Nat.le_trans (List.length_filter_le _ _) (Nat.le_trans (List.Sublist.length_le (rel_sub m is u _)) (Nat.le_trans (view_len _ _) f))
  omega
theorem shows_nis {ps : List (Str × Str)} (h : ∀ p ∈ ps, NiOk p) (l : ps.length ≤ 100) : Shows (.tuple (ps.map niD)) 3000 2 ∧ Shows (.list (ps.map niD)) 3000 2 := by
  have row := shows_all (n := 27) (k := 1) (ds := ps.map niD) fun d hd => by
    obtain ⟨p, hp, rfl⟩ := List.mem_map.mp hd
    unfold niD
    exact (Shows.tup (ShowsAll.cons (shows_str (h p hp).n.1) (ShowsAll.cons (shows_str (h p hp).i.1) (ShowsAll.nil 0)))).more (by omega) (by omega)
  rw [List.length_map] at row
  have := Nat.mul_le_mul_right 29 l
  exact ⟨(Shows.tup row).more (by omega) (by omega), (Shows.lst row).more (by omega) (by omega)⟩
theorem shows_us {m : Man} (g : GoodM m) {is : Its} (x : LibX is) {us : List Us} (h : GoodU m is us) : Shows (.tuple (us.map usD)) 4000 3 := by
  have row := shows_all (n := 300) (k := 2) (ds := us.map usD) fun d hd => by
    obtain ⟨u, hu, rfl⟩ := List.mem_map.mp hd
    have o := h.ok u hu
    have hn : u.1 ∈ us.map (·.1) := List.mem_map.mpr ⟨u, hu, rfl⟩
    have s2 : u.2.2.Sublist twelve := o.its.trans ((view_names _).trans x.names)
    unfold usD
    refine (Shows.tup (ShowsAll.cons (shows_str (h.names.len _ hn)) (ShowsAll.cons (shows_tupS (n := 10) (m := 10) (fun y hy => g.names y (o.req.subset hy)) (Nat.le_trans o.req.length_le g.few)) (ShowsAll.cons (shows_tupS (n := 10) (m := 12) (fun y hy => twelve_len y (s2.subset hy)) s2.length_le) (ShowsAll.nil 1))))).more (by omega) (by omega)
  rw [List.length_map] at row
  have := Nat.mul_le_mul_right 302 h.few
  exact (Shows.tup row).more (by omega) (by omega)
end L2.Pu

set_option Elab.async false
set_option linter.all false
set_option maxRecDepth 100000
set_option maxHeartbeats 4000000
namespace L2.Pu
open PySem PySem.Spec PyProof.Rows
theorem flat_map_eq {α β γ : Type} (l : List α) (f : α → List β) (g : β → γ) : (l.flatMap f).map g = l.flatMap fun x => (f x).map g := by
  induction l with
  | nil => rfl
  | cons a l ih => rw [List.flatMap_cons, List.map_append, ih, List.flatMap_cons]
/-- users, as a tuple or a list -/
def usS (us : List Us) (d : PyData) : Prop := d = .tuple (us.map usD) ∨ d = .list (us.map usD)
def reqOf : PyData → List PyData
  | .tuple [_, .tuple ds, _] => ds
  | _ => []
theorem req_flat (us : List Us) : (us.map usD).flatMap reqOf = (unL us).map PyData.str := by
  unfold unL
  rw [List.flatMap_map, flat_map_eq]
  rfl
/-! ### claims -/
theorem claimU_len {m : Man} {is : Its} (f : is.length ≤ 12) (u : Us) : (claimU m is u).length ≤ 12 := by
  unfold claimU
  rw [List.length_map]
  exact Nat.le_trans (List.Sublist.length_le (rel_sub m is u _)) (Nat.le_trans (view_len _ _) f)
def usOf : PyData → Us
  | .tuple [.str n, .tuple a, .tuple b] => (n, a.filterMap (fun d => match d with | .str x => some x | _ => none), b.filterMap (fun d => match d with | .str x => some x | _ => none))
  | _ => ("", [], [])
theorem strs_back (r : List Str) : (r.map PyData.str).filterMap (fun d => match d with | .str x => some x | _ => none) = r := by
  induction r with
  | nil => rfl
  | cons x r ih => exact congrArg (x :: ·) ih
theorem usOf_us (u : Us) : usOf (usD u) = u := by
  show (u.1, (u.2.1.map PyData.str).filterMap _, (u.2.2.map PyData.str).filterMap _) = u
  rw [strs_back, strs_back]
noncomputable def clOf (m : Man) (is : Its) (d : PyData) : List PyData := (claimU m is (usOf d)).map clD
theorem clOf_us (m : Man) (is : Its) (u : Us) : clOf m is (usD u) = (claimU m is u).map clD := by unfold clOf; rw [usOf_us]
theorem clOf_flat (m : Man) (is : Its) (us : List Us) : (us.map usD).flatMap (clOf m is) = (claimsL m is us).map clD := by
  unfold claimsL
  rw [List.flatMap_map, flat_map_eq]
  congr 1
  funext u
  exact clOf_us m is u
def clP (u : Us) : PyData → Option PyData
  | .tuple [.str i, .int v] => if i ∈ u.2.2 then some (clD (u.1, i, v)) else none
  | _ => none
theorem clP_pr (u : Us) (p : Str × Int) : clP u (prD p) = if p.1 ∈ u.2.2 then some (clD (u.1, p.1, p.2)) else none := rfl
theorem clP_view {m : Man} {is : Its} (u : Us) : ((viewL is (clo m u.2.1)).map prD).filterMap (clP u) = (claimU m is u).map clD := by
  unfold claimU relP
  induction viewL is (clo m u.2.1) with
  | nil => rfl
  | cons p l ih =>
    rw [List.map_cons, List.filterMap_cons, clP_pr, List.filter_cons]
    by_cases h : p.1 ∈ u.2.2
    · rw [if_pos h, decide_eq_true h, if_pos rfl, List.map_cons, List.map_cons, ← ih]
    · rw [if_neg h, decide_eq_false h, if_neg (by decide), ih]
theorem claims_okP {N : List Str} {m : Man} {is : Its} (ok : OkI N is) (us : List Us) : okP ((claimsL m is us).map (·.2)) := fun p hp => by
  obtain ⟨c, hc, rfl⟩ := List.mem_map.mp hp
  obtain ⟨u, _, hc⟩ := List.mem_flatMap.mp hc
  obtain ⟨q, hq, rfl⟩ := List.mem_map.mp hc
  exact ok.view _ q ((rel_sub m is u _).subset hq)
end L2.Pu

set_option Elab.async false
set_option linter.all false
set_option maxRecDepth 100000
set_option maxHeartbeats 4000000
/-! ## Features that are safe, by steps; the library that is mended -/
namespace L2.Pu
open PySem PySem.Spec PyProof.Rows
/-- some step with x breaks something -/
def Harms (m : Man) (is : Its) (x : Str) : Prop := ∃ c ∈ closedL m, x ∉ c ∧ stepG m is c x ≠ []
open Classical in
noncomputable def harmB (m : Man) (is : Its) (x : Str) : Bool := decide (Harms m is x)
noncomputable def calmL (m : Man) (is : Its) : List Str := (nms m).filter fun x => !harmB m is x
open Classical in
theorem harm_iff {m : Man} {is : Its} {x : Str} : harmB m is x = true ↔ Harms m is x := by unfold harmB; exact decide_eq_true_iff
theorem mem_calmL {m : Man} {is : Its} {x : Str} : x ∈ calmL m is ↔ x ∈ nms m ∧ ¬ Harms m is x := by
  unfold calmL
  rw [List.mem_filter, Bool.not_eq_true', ← Bool.not_eq_true, harm_iff]
theorem calm_lost {m : Man} (W : Wf m) {is : Its} {r more : List Str} (hr : ∀ x ∈ r, x ∈ nms m) (hm : ∀ x ∈ more, x ∈ nms m) (h : ∀ x ∈ more, x ∈ calmL m is ∨ x ∈ clo m r) : goneL (viewL is (clo m r)) (viewL is (clo m (r ++ more))) = [] := by
  refine List.eq_nil_iff_forall_not_mem.mpr fun p hp => ?_
  obtain ⟨p1, p2⟩ := mem_goneL.mp hp
  obtain ⟨d, d1, d2, x, hx, hxm, hs⟩ := lost_way W (clo_closed W hr) p1 more hm (by rw [clo_app W hr hm]; exact p2)
  have hx := mem_outL.mp hx
  rcases h x hxm with z | z
  · exact (mem_calmL.mp z).2 ⟨d, d1, hx.2, List.ne_nil_of_mem hs⟩
  · exact hx.2 (d2 x z)
def m0 : Man := [("a", ["b"]), ("b", [])]
def fo0 : Fo := .nd "any" [.nd "not" [.ft "b"], .nd "all" [.ft "a", .ft "b"]]
def is0 (v : Int) : Its := [("item", [(fo0, v)])]
theorem m0_good : GoodM m0 := by
  refine ⟨?_, fun r hr => ?_⟩
  · show (["a", "b"] : List Str).Sublist ten
    have : (["a", "b"] : List Str) = ten.filter fun x => decide (x = ("a" : Str)) || decide (x = ("b" : Str)) := by decide +kernel
    rw [this]; exact List.filter_sublist
  · unfold m0 at hr
    simp only [List.mem_cons, List.not_mem_nil, or_false] at hr
    rcases hr with rfl | rfl
    · show (["b"] : List Str).Sublist ["a", "b"]
      exact (List.Sublist.refl _).cons _
    · exact List.nil_sublist _
theorem fo0_ok : okF (nms m0) fo0 := by
  unfold fo0
  refine okF_nd.mpr ⟨by simp [heads], fun z => absurd z (by decide +kernel), by simp, fun f hf => ?_⟩
  simp only [List.mem_cons, List.not_mem_nil, or_false] at hf
  rcases hf with rfl | rfl
  · refine okF_nd.mpr ⟨by simp [heads], fun _ => rfl, by simp, fun f hf => ?_⟩
    cases List.mem_singleton.mp hf
    simp [okF, m0]
  · refine okF_nd.mpr ⟨by simp [heads], fun z => absurd z (by decide +kernel), by simp, fun f hf => ?_⟩
    simp only [List.mem_cons, List.not_mem_nil, or_false] at hf
    rcases hf with rfl | rfl
    · simp [okF, m0]
    · simp [okF, m0]
theorem fo0_tall : tall fo0 ≤ 3 := by simp [fo0, tall, tallAll]
theorem is0_ok {v : Int} (h0 : 0 ≤ v) (h1 : v ≤ 99) : OkI (nms m0) (is0 v) := by
  refine ⟨by simp [is0], fun i hi => ?_, fun i hi => ?_⟩
  · cases List.mem_singleton.mp hi
    refine ⟨by simp, fun r hr => ?_⟩
    cases List.mem_singleton.mp hr
    have := fo0_tall
    exact ⟨fo0_ok, by show tall fo0 ≤ 5; omega, h0, h1⟩
  · cases List.mem_singleton.mp hi
    exact twelve_ok "item" (by decide +kernel)
theorem is0_x {v : Int} : LibX (is0 v) := by
  refine ⟨?_, fun i hi => ?_⟩
  · show (["item"] : List Str).Sublist twelve
    exact List.singleton_sublist.mpr (by decide +kernel)
  · cases List.mem_singleton.mp hi
    refine ⟨by simp, by simp, fun r hr => ?_⟩
    cases List.mem_singleton.mp hr
    exact fo0_tall
theorem rch_nil {m : Man} {x : Str} (h : Rch m [] x) : False := by
  induction h with
  | base z => cases z
  | step _ _ ih => exact ih
open Classical in
theorem clo_nil (m : Man) : clo m [] = [] := by
  unfold clo
  exact List.filter_eq_nil_iff.mpr fun x _ z => rch_nil (of_decide_eq_true z)
theorem impl_b : impl m0 "b" = ([] : List Str) := by decide +kernel
theorem impl_a : impl m0 "a" = (["b"] : List Str) := by decide +kernel
theorem n1 : ("any" : Str) ≠ "not" := by decide +kernel
theorem n2 : ("any" : Str) ≠ "all" := by decide +kernel
theorem n3 : ("all" : Str) ≠ "not" := by decide +kernel
theorem nab : ("a" : Str) ≠ "b" := by decide +kernel
theorem clo_b : clo m0 ["b"] = (["b"] : List Str) := by
  have W := m0_good.wf
  have hb : ∀ x ∈ (["b"] : List Str), x ∈ nms m0 := fun x hx => by cases List.mem_singleton.mp hx; simp [m0]
  refine sorted_same (clo_asc W _) (List.pairwise_singleton _ _) fun x => ?_
  rw [mem_clo W hb, List.mem_singleton]
  constructor
  · intro r
    induction r with
    | base z => exact List.mem_singleton.mp z
    | step _ hy ih => subst ih; rw [impl_b] at hy; cases hy
  · rintro rfl; exact .base List.mem_cons_self
theorem clo_a : clo m0 ["a"] = (["a", "b"] : List Str) := by
  have W := m0_good.wf
  have ha : ∀ x ∈ (["a"] : List Str), x ∈ nms m0 := fun x hx => by cases List.mem_singleton.mp hx; simp [m0]
  refine sorted_same (clo_asc W _) (W.asc : (nms m0).Pairwise ltS) fun x => ?_
  rw [mem_clo W ha]
  show _ ↔ x ∈ (["a", "b"] : List Str)
  rw [List.mem_cons, List.mem_singleton]
  constructor
  · intro r
    induction r with
    | base z => exact .inl (List.mem_singleton.mp z)
    | step _ hy ih =>
      rcases ih with rfl | rfl
      · rw [impl_a] at hy; exact .inr (List.mem_singleton.mp hy)
      · rw [impl_b] at hy; cases hy
  · rintro (rfl | rfl)
    · exact .base List.mem_cons_self
    · exact .step (.base List.mem_cons_self) (by rw [impl_a]; exact List.mem_cons_self)
theorem view0 (v : Int) (S : List Str) (h : hold S fo0 = true) : viewL (is0 v) S = ([("item", v)] : List (Str × Int)) := by
  unfold viewL is0
  simp [verOf, h]
theorem view0n (v : Int) (S : List Str) (h : hold S fo0 = false) : viewL (is0 v) S = [] := by
  unfold viewL is0
  simp [verOf, h]
theorem lost0a (v : Int) : lostL m0 (is0 v) [] ["a"] = [] := by
  unfold lostL
  rw [List.nil_append, clo_nil, clo_a, view0 v [] (by simp [fo0, hold_nd, hold_ft, n1, n2, n3]), view0 v _ (by simp [fo0, hold_nd, hold_ft, n1, n2, n3])]
  unfold goneL
  simp
theorem lost0b (v : Int) : lostL m0 (is0 v) [] ["b"] = ([("item", v)] : List (Str × Int)) := by
  unfold lostL
  rw [List.nil_append, clo_nil, clo_b, view0 v [] (by simp [fo0, hold_nd, hold_ft, n1, n2, n3]), view0n v _ (by simp [fo0, hold_nd, hold_ft, nab, n1, n2, n3])]
  unfold goneL
  simp
end L2.Pu

set_option Elab.async false
set_option linter.all false
set_option maxRecDepth 100000
set_option maxHeartbeats 4000000
/-! ## Data with dicts: shown; displays of dicts -/
namespace L2.Pu
open PySem PySem.Spec PyProof.Rows
mutual
/-- no dict whose keys are tuples -/
def noTK : PyData → Bool
  | .list ds => noTKs ds
  | .tuple ds => noTKs ds
  | .dict es => noTKe es
  | _ => true
def noTKs : List PyData → Bool
  | [] => true
  | d :: ds => noTK d && noTKs ds
def noTKe : List (PyData × PyData) → Bool
  | [] => true
  | (.tuple _, _) :: _ => false
  | (_, d) :: es => noTK d && noTKe es
end
theorem noTKe_map : ∀ {es : List (Key × PyData)}, noTKe (es.map fun e => (keyD e.1, e.2)) = true → noTKs (es.map (·.2)) = true
  | [], _ => by simp only [List.map_nil, noTKs]
  | (.inl i, d) :: es, h => by
    simp only [List.map_cons, keyD, noTKe, Bool.and_eq_true] at h
    simp only [List.map_cons, noTKs, Bool.and_eq_true]
    exact ⟨h.1, noTKe_map h.2⟩
  | (.inr x, d) :: es, h => by
    simp only [List.map_cons, keyD, noTKe, Bool.and_eq_true] at h
    simp only [List.map_cons, noTKs, Bool.and_eq_true]
    exact ⟨h.1, noTKe_map h.2⟩
/-- the table of modules stands in the base -/
def SysB (base : Heap) : Prop := ∃ mm, base.Ns sysModules mm
section
variable {X : Cx} {τ : Tb} {pins : List (Addr × Obj)} {σ : St} {H : Hp} {s : Shared}
theorem SysB.ne (I : Inv X pins σ H s) (h : SysB X.base) {a : Addr} {o : Obj} {us : Array Value} {n : Nat} (e : s.heap.get? a = some o) (d : o.data = .seq us n) : a ≠ sysModules := by
  obtain ⟨mm, o', es, ep, e', d', _⟩ := h
  rintro rfl
  rw [I.bk _ _ e'] at e
  cases e
  rw [d'] at d
  cases d
theorem Da.readsA (I : Inv X pins σ H s) (hs : SysB X.base) {v : V} {d : PyData} (h : Da X.w H v d) : noTK d = true → ∀ u : Value, RelV v u → ∃ as, Reads s.heap u d as ∧ sysModules ∉ as := by
  refine Da.rec (motive_1 := fun v d _ => noTK d = true → ∀ u : Value, RelV v u → ∃ as, Reads s.heap u d as ∧ sysModules ∉ as) (motive_2 := fun vs ds _ => noTKs ds = true → ∀ us : List Value, Vals vs us → ∃ as, ReadsAll s.heap us ds as ∧ sysModules ∉ as)
    ?_ ?_ ?_ ?_ ?_ ?_ ?_ ?_ ?_ ?_ h
  · intro _ u r
    cases (show u = Value.none from r)
    exact ⟨[], .none, fun z => nomatch z⟩
  · intro b _ u r
    cases (show u = Value.bool b from r)
    exact ⟨[], .bool b, fun z => nomatch z⟩
  · intro i _ u r
    obtain ⟨t, rfl⟩ := (show ∃ t, u = Value.int i t from r)
    exact ⟨[], .int i t, fun z => nomatch z⟩
  · intro x _ u r
    obtain ⟨t, rfl⟩ := (show ∃ t, u = Value.str x t from r)
    exact ⟨[], .str x t, fun z => nomatch z⟩
  · intro a xs ds e n _ ih nt u r
    cases (show u = Value.ref a from r)
    obtain ⟨_, its, m, rv, ho⟩ := (show ObjOk X.prog X.w H s.heap a (.lst xs) from I.hok a _ e)
    obtain ⟨as, q, z⟩ := ih (by simpa only [noTK] using nt) its rv
    exact ⟨a :: as, .list ho rfl rfl (by simpa using q), fun t => (List.mem_cons.mp t).elim (fun y => hs.ne I ho rfl y.symm) z⟩
  · intro a ob xs ds e _ _ ih nt u r
    cases (show u = Value.ref a from r)
    obtain ⟨_, its, rv, o, ho, hc, m, hd⟩ := (show ObjOk X.prog X.w H s.heap a (.tup xs) from (I.hok a _ e).2)
    obtain ⟨as, q, z⟩ := ih (by simpa only [noTK] using nt) its rv
    exact ⟨as, .tuple ho hc hd (by simpa using q), z⟩
  · intro a ob kvs es e hk hall ih nt u r
    cases (show u = Value.ref a from r)
    obtain ⟨_, ny, vs, rv, o, es', ep, ho, hx, hd, _, pr, _⟩ := (show ObjOk X.prog X.w H s.heap a (.dK kvs) from (I.hok a _ e).2)
    obtain ⟨q1, q2⟩ := kv_reads (h := s.heap) pr rv
    obtain ⟨as, q3, z⟩ := ih (noTKe_map (by simpa only [noTK] using nt)) _ q2
    have ek : (kvs.map fun kv => keyD kv.1) = (es.map (·.1)).map keyD := by rw [← hk, List.map_map]; rfl
    rw [ek] at q1
    refine ⟨a :: [] ++ as, .dict ho hx.1 hd (by rw [map_fst2]; exact q1) (by rw [map_snd2]; exact q3), fun t => ?_⟩
    rcases List.mem_cons.mp (show sysModules ∈ a :: as from t) with y | y
    · exact absurd y.symm (fun y' => by rw [y'] at ny; exact absurd ny (by decide))
    · exact z y
  · intro a ob u zs rds e dt ks hk ne hall ih nt
    cases rds with
    | nil => exact absurd rfl ne
    | cons r rds => simp only [noTK, List.map_cons, noTKe] at nt; cases nt
  · intro _ us r
    cases r
    exact ⟨[], .nil, fun z => nomatch z⟩
  · intro v vs d ds _ _ i1 i2 nt us r
    simp only [noTKs, Bool.and_eq_true] at nt
    cases r with
    | cons r1 r2 =>
      obtain ⟨as, q1, z1⟩ := i1 nt.1 _ r1
      obtain ⟨bs, q2, z2⟩ := i2 nt.2 _ r2
      exact ⟨as ++ bs, .cons q1 q2, fun t => (List.mem_append.mp t).elim z1 z2⟩
/-- data that repr shows, with dicts in it -/
structure ShowA (d : PyData) (n k : Nat) : Prop where
  can : d.showable = true
  few : d.shown.length ≤ n
  flat : d.depth ≤ k
  noT : noTK d = true
abbrev FitA (d : PyData) : Prop := ShowA d 16000000 60
def rReprA (X : Cx) : RN := fun xs H Q => ∃ (x : V) (d : PyData), xs = [x] ∧ Da X.w H x d ∧ FitA d ∧ Q (.str d.shown) H
theorem call_reprA (hs : SysB X.base) (gd : X.A.guards = some []) (hu : X.A.units + 64 < cLine) : CallR X (.builtin "repr") (rReprA X) := by
  intro pins s σ H xs us Q I r h
  obtain ⟨x, d, rfl, hd, sh, q⟩ := h
  have hz : d.shown.length ≤ sizeLine := line_le sh.few
  have hdp := sh.flat
  cases r with
  | @cons _ u _ ur ru rn =>
    cases rn
    obtain ⟨as, rd, hsm⟩ := hd.readsA I hs sh.noT u ru
    have can := sh.can
    cases hd with
    | non =>
      cases (show u = Value.none from ru)
      exact PySem.P.repr_of_none ⟨.str _, H, I.tok _, ⟨_, rfl⟩, q⟩
    | bl b =>
      cases (show u = Value.bool b from ru)
      exact PySem.P.repr_of_bool ⟨.str _, H, I.tok _, ⟨_, rfl⟩, q⟩
    | int i =>
      obtain ⟨t, rfl⟩ := (show ∃ t, u = Value.int i t from ru)
      exact PySem.P.repr_of_int (by simpa [PyData.showable] using can) ⟨.str _, H, I.tok _, ⟨_, rfl⟩, q⟩
    | str x =>
      obtain ⟨t, rfl⟩ := (show ∃ t, u = Value.str x t from ru)
      exact PySem.P.repr_of_str ⟨.str _, H, I.tok _, ⟨_, rfl⟩, q⟩ hz
    | lst e n ha =>
      cases ru
      exact repr_of_reads' rd can (fun _ => hsm) gd (by omega) (fun _ _ z => z) (fun h' t tk hk => ⟨.str _, H, I.kept hk, ⟨_, rfl⟩, q⟩) hz
    | tup e _ ha =>
      cases ru
      exact repr_of_reads' rd can (fun _ => hsm) gd (by omega) (fun _ _ z => z) (fun h' t tk hk => ⟨.str _, H, I.kept hk, ⟨_, rfl⟩, q⟩) hz
    | dicT e dt ks hk ne ha =>
      cases ru
      exact repr_of_reads' rd can (fun _ => hsm) gd (by omega) (fun _ _ z => z) (fun h' t tk hk => ⟨.str _, H, I.kept hk, ⟨_, rfl⟩, q⟩) hz
    | dic e k ha =>
      cases ru
      exact repr_of_reads' rd can (fun _ => hsm) gd (by omega) (fun _ _ z => z) (fun h' t tk hk => ⟨.str _, H, I.kept hk, ⟨_, rfl⟩, q⟩) hz
end
section
variable {X : Cx} {τ : Tb} {pos p : Pos} {e : Expr} {q : QE}
def reprA : PyData → (PyData → Prop) → Prop := fun d P => FitA d ∧ P (.str d.shown)
theorem qe_reprA (hs : SysB X.base) (gd : X.A.guards = some []) (hu : X.A.units + 64 < cLine) (hg : Gl X "repr") (hm : X.mg "repr" = none) (h : PQ τ X e q) (he : starEach [e] X.env = (false, eval e X.env) :: starEach [] X.env := by rfl) (hpl : (backTo pos (starEach [] X.env)).any (·.1) = false := by rfl) :
    PQ τ X (.Call (.Name "repr" p) [e] [] pos) (qUn reprA q) := by
  refine pe_imp _ (pe_callB (call_reprA hs gd hu) hg hm (by decide +kernel) (pa_cons h pa_nil he) (by decide) (by decide) he hpl) ?_
  rintro σ H Q ⟨F, ρ, C, R, κ, k, z⟩
  refine ⟨F, ρ, C, R, _, k, fun d ρ1 v C1 H1 k1 s1 R1 d1 => ?_⟩
  exact ⟨v, d, rfl, d1.mono R1.sub, k1.1, z _ _ _ _ _ k1.2 s1 R1 (.str _)⟩
/-! ### {} and {'a': e} as data -/
theorem qe_dictN : PQ τ X (.Dict [] [] pos) (qC (.dict [])) := by
  refine pe_imp _ (pe_lockK pe_dnewK) ?_
  rintro σ H Q ⟨F, ρ, C, R, κ, k, z⟩ p np
  refine ⟨p, [], rfl, upd_same, fun o => ?_⟩
  rw [upd_upd]
  have cp := sub_none R.sub np
  have sD := same_new (o := .frz o (.dK [])) cp
  exact z _ _ _ _ _ k sD (R.lay np) (Da.dic (es := []) upd_same rfl .nil)
def qDict1 (x : Str) (q : QE) : QE := fun ρ κ => q ρ fun d ρ1 => κ (.dict [(.str x, d)]) ρ1
theorem qe_dict1 {x : Str} {j : Nat} {p2 : Pos} (h : PQ τ X e q) : PQ τ X (.Dict [some (.Constant (.str x) j p2)] [e] pos) (qDict1 x q) := by
  refine pe_imp _ (pe_lockK (pe_disp (pps_cons pe_str h pps_nil) rfl rfl (by simp) (by simp))) ?_
  rintro σ H Q ⟨F, ρ, C, R, κ, k, z⟩ p np
  have R1 : Rep (X.pk τ) F ρ C σ (upd H p (.dK [])) := R.layH np
  have f1 := R.new_fresh np
  have hr := R.ref_ne np
  have c0 := R.c0_none (sub_none R.sub np)
  refine ⟨_, ρ, C, R1.guard f1 upd_same, _, k, fun d ρ1 v C1 H1 k1 s1 Rg d1 => ?_⟩
  obtain ⟨R8, e8, f8⟩ := Rg.unguard (fun xs z => nomatch z) (fun xs z => nomatch z) f1.start c0 hr
  refine ⟨e8, [(.inr x, v)], rfl, by simp, p, [(.inr x, v)], rfl, upd_same, fun o => ?_⟩
  rw [upd_upd]
  have nc : (∀ ps, H1 p ≠ some (.tbl ps)) ∧ ∀ q, H1 p ≠ some (LamX.CodeO p q) := ⟨fun _ z => (by rw [e8] at z; cases z), fun _ z => (by rw [e8] at z; cases z)⟩
  have R9 := (R8.writeF f8 hr nc (.frz o (.dK [(.inr x, v)])) (fun xs e => nomatch e)).adopt f8 upd_same
  have sD := same_new (o := .frz o (.dK [(.inr x, v)])) f8.core
  exact z _ _ _ _ _ k1 (same_trans s1 sD) R9 (Da.dic (kvs := [(.inr x, v)]) (es := [(.inr x, d)]) upd_same rfl (.cons (d1.mono sD) .nil))
end
end L2.Pu

set_option Elab.async false
set_option linter.all false
set_option maxRecDepth 100000
set_option maxHeartbeats 4000000
/-! ## The law's call, with tables of code objects -/
namespace L2.Pu
open PySem PySem.Spec PyProof.Rows
theorem lawT_atS {P : Program} {w : World} {K : PySem.W.Frag} {mg mb : Str → Option Value} {k : Nat} {fa a : Addr} {cs : List (Addr × Addr)} {fd : FuncData} {x : Str} {sp : Heap → Sp} {s1 : Shared} {vs : List Value} {H : Hp}
    (KX : K.In s1.heap) (nsG : s1.heap.Ns mainGlobals mg) (nsB : s1.heap.Ns builtinsNs mb) (isB : ∀ x : Str, x ≠ "__name__" → mb x = bootBuiltins x) (lim : s1.heap.NoLimit) (gens : s1.gens = #[])
    (emp : ∀ p ∈ cs, s1.heap.get? p.2 = some { cls := .none, data := .fields #[] }) (outK : ∀ p ∈ cs, K.lookup p.2 = none) (hd : ∀ p ∈ cs, PySem.W.CodeHd s1.heap p.1 p.2)
    (bmod : ∃ (bm : Addr) (ob : Obj), mg "__builtins__" = some (.ref bm) ∧ bm ≠ builtinsNs ∧ s1.heap.get? bm = some ob ∧ ob.cls = .type "module" ∧ ob.dict = some builtinsNs ∧ ob.data = .plain)
    (sc : s1.heap.get? a = some { cls := .type "list", data := .seq vs.toArray }) (hr : Room k callerA)
    (sysN : ∃ mm, s1.heap.Ns sysModules mm) (F : ∀ base : Heap, K.In base → base.Ns mainGlobals mg → SysB base → (∀ p ∈ cs, LamX.TabB base mg p.1 p.2) → Fu.FnG P w K mg base CX0 k fa fd [x] (sp base)) (hbind : ∀ (s : Shared) (u : Value), BindsTo s fd ⟨[u], []⟩ [(x, u)])
    (tab : ∀ p ∈ cs, H p.2 = some (.tbl #[])) (only : ∀ b, H b = none ∨ b ∈ cs.map (·.2) ∨ ∃ o xs, H b = some (.frz o (.lst xs))) (hok : HOk P w H s1.heap) (at_a : ∀ b, H b ≠ none → b = a ∨ b ∈ cs.map (·.2)) (offK : H a ≠ none → K.lookup a = none)
    (hsp : sp (hidT s1.heap H) [.ref a] H (fun v _ => v = .bl true) fun _ _ _ => False) :
    codeAny (model P w) callerA (.call (.ref fa) ⟨[.ref a], []⟩) (fun r s' => r = .ok (.ret (.bool true)) ∧ OldK s1.heap s'.heap ∧ s'.os = s1.os ∧ AllBare s'.gens) s1 := by
  have isTab : ∀ b, b ∈ cs.map (·.2) → s1.heap.get? b = some { cls := .none, data := .fields #[] } := fun b m => by
    obtain ⟨p, hp, rfl⟩ := List.mem_map.mp m
    exact emp p hp
  -- what is neither a list nor an empty table is not tracked
  have off : ∀ (b : Addr) (o : Obj), s1.heap.get? b = some o → (∀ us n, o.data ≠ .seq us n) → o.data ≠ .fields #[] → H b = none := fun b o e h1 h2 => by
    cases q : H b with
    | none => rfl
    | some u =>
      rcases at_a b (by rw [q]; exact Option.some_ne_none u) with rfl | m
      · rw [sc] at e; cases e; exact absurd rfl (h1 _ _)
      · rw [isTab b m] at e; cases e; exact absurd rfl h2
  have nsHid : ∀ (b : Addr) (m : Str → Option Value), s1.heap.Ns b m → (hidT s1.heap H).Ns b m := by
    rintro b m ⟨o, es, ep, e, d, r⟩
    refine ⟨o, es, ep, hidT_get e (off b o e (fun us n z => ?_) fun z => ?_), d, r⟩
    · rw [d] at z; cases z
    · rw [d] at z; cases z
  have inHid : K.In (hidT s1.heap H) := by
    intro b o e
    refine hidT_get (KX b o e) ?_
    cases q : H b with
    | none => rfl
    | some u =>
      have nn : H b ≠ none := by rw [q]; exact Option.some_ne_none u
      rcases at_a b nn with rfl | m
      · rw [offK nn] at e; cases e
      · obtain ⟨p, hp, rfl⟩ := List.mem_map.mp m
        rw [outK p hp] at e; cases e
  obtain ⟨mc, c1, c2⟩ := lim
  have modH : Mod K mg (hidT s1.heap H) := ⟨inHid, nsHid _ _ nsG, ⟨mb, nsHid _ _ nsB, isB⟩, ⟨mc, nsHid _ _ c1, c2⟩⟩
  have TB : ∀ p ∈ cs, LamX.TabB (hidT s1.heap H) mg p.1 p.2 := fun p hp => by
    have ep := emp p hp
    obtain ⟨og, es, epo, eg, dg, _⟩ := id nsG
    refine ⟨?_, ?_, fun z => ?_⟩
    · obtain ⟨o, us, file, tf, flags, tg, inF, text, tt, e1, r1, r2, r3, rest⟩ := hd p hp
      refine ⟨o, us, file, tf, flags, tg, inF, text, tt, hidT_get e1 (off _ _ e1 (fun _ _ z => ?_) fun z => ?_), r1, r2, r3, rest⟩
      · rw [r2] at z; cases z
      · rw [r2] at z; cases z; simp at r3
    · obtain ⟨bm, ob, b1, b2, b3, b4, b5, b6⟩ := bmod
      refine ⟨bm, ob, b1, b2, fun q => ?_, fun q => ?_, hidT_get b3 (off _ _ b3 (fun _ _ z => ?_) fun z => ?_), b4, b5, b6⟩
      · rw [q, eg] at b3; cases b3; rw [dg] at b6; cases b6
      · rw [q, ep] at b3; cases b3; cases b6
      · rw [b6] at z; cases z
      · rw [b6] at z; cases z
    · rw [z, ep] at eg; cases eg; cases dg
  have e0 : Env0 P w K mg (hidT s1.heap H) callerA [] s1 H :=
    { frames := rfl, mod := modH, bs := fun b o e => of_hidT e, bsz := Nat.le_of_eq (hidT_size _ _), funs := trivial, frf := (fun b z => nomatch z), hok := hok, bare := .of_eq gens }
  refine codeAny_mono ((F _ inHid (nsHid _ _ nsG) (sysN.elim fun mm h => ⟨mm, nsHid _ _ h⟩) TB).go callerA [] s1 H ⟨[.ref a], []⟩ [.ref a] [.ref a] _ _ rfl hr e0 (hbind s1 (.ref a)) (.cons rfl .nil) hsp) fun r s' h => ?_
  match r, h with
  | .error e, h => exact h.elim
  | .ok .next, h => exact h.elim
  | .ok .brk, h => exact h.elim
  | .ok .cont, h => exact h.elim
  | .ok (.ret u), h =>
    obtain ⟨v, H', os, bare, un, hok', r', q⟩ := h
    obtain rfl : v = V.bl true := q
    obtain rfl : u = Value.bool true := r'
    have stay : ∀ b o, b ∉ cs.map (·.2) → s1.heap.get? b = some o → s'.heap.get? b = some o := fun b o nb e => by
      rcases only b with z | z | ⟨ob, xs, z⟩
      · exact un.keep b o e z (fun t => nomatch t) fun t => nomatch t
      · exact absurd z nb
      · have old := (hok b _ z).1
        rw [e] at old; cases old
        exact (hok' b _ (un.frzs b o _ z)).1
    have grown : ∀ p ∈ cs, ∃ more : Array Value, s'.heap.get? p.2 = some { cls := .none, data := .fields more } := fun p hp => by
      obtain ⟨more, z⟩ := un.tbls p.2 #[] (tab p hp)
      exact ⟨_, hok' p.2 _ z⟩
    refine ⟨rfl, ⟨fun b o e => ?_, fun b o e => ?_⟩, os, bare⟩
    · by_cases m : b ∈ cs.map (·.2)
      · obtain ⟨p, hp, rfl⟩ := List.mem_map.mp m
        obtain ⟨more, hm⟩ := grown p hp
        rw [emp p hp] at e; cases e
        exact .inr (.inl ⟨((hd p hp).tab (emp p hp)).isCodeTable, rfl, #[], more, rfl, by rw [Array.empty_append]; exact hm⟩)
      · exact .inl (stay b o m e)
    · by_cases m : b ∈ cs.map (·.2)
      · obtain ⟨p, hp, rfl⟩ := List.mem_map.mp m
        obtain ⟨more, hm⟩ := grown p hp
        exact ⟨_, hm⟩
      · exact ⟨o, stay b o m e⟩
end L2.Pu
/-! ## The end -/
namespace L2.Pu
open PySem PySem.Spec PyProof.Rows
theorem endTS {l : PySem.W.OpenLaw} {n k : Nat} {q : Program} {loose : List Str} {XP : (Str → Option Value) → Heap → Prop} {YP : World → Heap → Prop} {d : DefRec} {K : Params → PySem.W.Frag} {sp : PSp} {x : Str}
    (hn : l.most = some n) (hn2 : n ≤ sizeLine) (hdf : d.params.defaults = []) (hr : Room k callerA) (hi : importsNone q = true) (hY : ∀ (w : World) (h : Heap), YP w h → (K w.params).In h)
    (F : ∀ (w : World) (mg : Str → Option Value) (fa : Addr) (h : Heap), YP w h → (K w.params).In h → h.Ns mainGlobals mg → mg d.name = some (.ref fa) →
      ∃ (fd : FuncData) (ts : List (Addr × Addr × Str)), (∀ t ∈ ts, h.get? t.2.1 = some { cls := .none, data := .fields #[] } ∧ (K w.params).lookup t.2.1 = none ∧ PySem.W.CodeHd h t.1 t.2.1) ∧
        (∀ (s : Shared) (u : Value), BindsTo s fd ⟨[u], []⟩ [(x, u)]) ∧
        ∀ base : Heap, (K w.params).In base → base.Ns mainGlobals mg → SysB base → (∀ t ∈ ts, LamX.TabB base mg t.1 t.2.1) → Fu.FnG l.prog w (K w.params) mg base CX0 k fa fd [x] (liftP ⟨l.prog, w, K w.params, ts.map fun t => (t.2.1, t.2.2), base⟩ sp))
    (hsp : ∀ ns : List Int, ns.length ≤ n → ∀ κ : PyData → List Slot → Prop, κ (.bool true) [.un] → sp [.scr ns] κ) :
    PySem.W.WalkO q loose XP YP l.row.toRowW d [] (fun f vs => PySem.call f vs) := by
  refine Att.attach_callB hn hdf fun w s0 s1 mg mb fa o pm cd doc a vs ns G Y ho hd hcd hmg hobj hints hlen hbits hg => ?_
  have KX := hY w _ Y
  obtain ⟨fd, ts, tabs, hb, hF⟩ := F w mg fa _ Y KX G.T.g hmg
  have rv := vals_ints hints
  have sz : ns.length ≤ sizeLine := Nat.le_trans hlen hn2
  have inT : ∀ {b : Addr}, b ∈ (ts.map fun t => (t.1, t.2.1)).map (·.2) ↔ ∃ q, (b, q) ∈ ts.map fun t => (t.2.1, t.2.2) := fun {b} => by
    constructor
    · intro m
      rw [List.map_map] at m
      obtain ⟨t, ht, rfl⟩ := List.mem_map.mp m
      exact ⟨t.2.2, List.mem_map.mpr ⟨t, ht, rfl⟩⟩
    · rintro ⟨q, m⟩
      obtain ⟨t, ht, e⟩ := List.mem_map.mp m
      cases e
      rw [List.map_map]; exact List.mem_map.mpr ⟨t, ht, rfl⟩
  have isT : ∀ b, b ∈ (ts.map fun t => (t.1, t.2.1)).map (·.2) → s1.heap.get? b = some { cls := .none, data := .fields #[] } := fun b m => by
    rw [List.map_map] at m
    obtain ⟨t, ht, rfl⟩ := List.mem_map.mp m
    exact (tabs t ht).1
  have aT : a ∉ (ts.map fun t => (t.1, t.2.1)).map (·.2) := fun z => by
    have e := isT a z
    rw [hobj] at e
    cases congrArg Obj.data (Option.some.inj e)
  have core : ∀ H : Hp, (∀ b, b ∈ (ts.map fun t => (t.1, t.2.1)).map (·.2) → H b = some (.tbl #[])) → (∀ b, H b = none ∨ b ∈ (ts.map fun t => (t.1, t.2.1)).map (·.2) ∨ ∃ o xs, H b = some (.frz o (.lst xs))) → HOk l.prog w H s1.heap →
      (∀ b, H b ≠ none → b = a ∨ b ∈ (ts.map fun t => (t.1, t.2.1)).map (·.2)) → (H a ≠ none → (K w.params).lookup a = none) → SqL (K w.params) H a (ns.map V.int) → (∀ xs, H a ≠ some (.lst xs)) →
      codeAny (model l.prog w) callerA (.call (.ref fa) ⟨[.ref a], []⟩) (fun r s' => r = .ok (.ret (.bool true)) ∧ OldK s1.heap s'.heap ∧ s'.os = s1.os ∧ AllBare s'.gens) s1 := by
    intro H hT only hok at_a offK hS hl
    refine lawT_atS (cs := ts.map fun t => (t.1, t.2.1)) (sp := fun base => liftP ⟨l.prog, w, K w.params, ts.map fun t => (t.2.1, t.2.2), base⟩ sp) KX G.T.g G.T.b G.T.builtins G.T.nolimit hg (fun p hp => ?_) (fun p hp => ?_) (fun p hp => ?_) G.T.bmain hobj hr ((G.T.seer hi).mods.elim fun mm h => ⟨mm, h.1⟩) (fun base b1 b2 b4 b3 => hF base b1 b2 b4 fun t ht => b3 (t.1, t.2.1) (List.mem_map.mpr ⟨t, ht, rfl⟩)) hb (fun p hp => hT _ (List.mem_map.mpr ⟨p, hp, rfl⟩)) only hok at_a offK ?_
    · obtain ⟨t, ht, rfl⟩ := List.mem_map.mp hp; exact (tabs t ht).1
    · obtain ⟨t, ht, rfl⟩ := List.mem_map.mp hp; exact (tabs t ht).2.1
    · obtain ⟨t, ht, rfl⟩ := List.mem_map.mp hp; exact (tabs t ht).2.2
    · refine ⟨lockd H, [.scr ns], law_start (fun t ht => ?_) (fun b => ?_) hS hl, fun d _ => d = .bool true, hsp ns hlen _ rfl, fun d ss' v C' H' e _ _ dv => ?_⟩
      · exact hT _ (inT.mpr ⟨t.2, ht⟩)
      · rcases only b with z | z | z
        · exact .inl z
        · exact .inr (.inl (inT.mp z))
        · exact .inr (.inr z)
      · subst e; cases dv; rfl
  cases hk : (K w.params).lookup a with
  | some ob =>
    have e := KX a ob hk
    rw [hobj] at e
    cases e
    refine core (fun b => if b ∈ (ts.map fun t => (t.1, t.2.1)).map (·.2) then some (.tbl #[]) else none) (fun b m => if_pos m) (fun b => ?_) (fun b u z => ?_) (fun b z => ?_) (fun z => absurd (if_neg aT) z) (.inr ⟨_, vs.toArray, _, hk, rfl, rfl, rfl, by rw [List.size_toArray, hints.length]; exact sz, by simpa using rv⟩) (fun xs z => ?_)
    · by_cases m : b ∈ (ts.map fun t => (t.1, t.2.1)).map (·.2)
      · exact .inr (.inl m)
      · exact .inl (if_neg m)
    · by_cases m : b ∈ (ts.map fun t => (t.1, t.2.1)).map (·.2)
      · cases (if_pos m).symm.trans z; exact isT b m
      · cases (if_neg m).symm.trans z
    · by_cases m : b ∈ (ts.map fun t => (t.1, t.2.1)).map (·.2)
      · exact .inr m
      · exact absurd (if_neg m) z
    · cases (if_neg aT).symm.trans z
  | none =>
    refine core (fun b => if b = a then some (.frz { cls := .type "list", data := .seq vs.toArray } (.lst (ns.map V.int))) else if b ∈ (ts.map fun t => (t.1, t.2.1)).map (·.2) then some (.tbl #[]) else none)
      (fun b m => (if_neg (fun z : b = a => aT (z ▸ m))).trans (if_pos m)) (fun b => ?_) (fun b u z => ?_) (fun b z => ?_) (fun _ => hk) (.inl (.inr ⟨_, if_pos rfl⟩)) (fun xs z => ?_)
    · by_cases e : b = a
      · exact .inr (.inr ⟨_, _, if_pos e⟩)
      · by_cases m : b ∈ (ts.map fun t => (t.1, t.2.1)).map (·.2)
        · exact .inr (.inl m)
        · exact .inl ((if_neg e).trans (if_neg m))
    · by_cases e : b = a
      · cases (if_pos e).symm.trans z
        rw [e]
        exact ⟨hobj, by rw [List.length_map]; exact sz, vs, _, rv, hobj⟩
      · have z1 := (if_neg e).symm.trans z
        by_cases m : b ∈ (ts.map fun t => (t.1, t.2.1)).map (·.2)
        · cases (if_pos m).symm.trans z1; exact isT b m
        · cases (if_neg m).symm.trans z1
    · by_cases e : b = a
      · exact .inl e
      · by_cases m : b ∈ (ts.map fun t => (t.1, t.2.1)).map (·.2)
        · exact .inr m
        · exact absurd ((if_neg e).trans (if_neg m)) z
    · cases (if_pos rfl).symm.trans z
end L2.Pu

set_option Elab.async false
set_option linter.all false
set_option maxRecDepth 100000
set_option maxHeartbeats 4000000
/-! ## Things of any kind -/
namespace L2.Pu
open PySem PySem.Spec PyProof.Rows
/-- a thing that can be shown: n signs and things at most, nested k deep at most -/
structure Th (d : PyData) (n k : Nat) : Prop where
  can : d.showable = true
  lvs : d.leavesShort 40 = true
  noT : noTK d = true
  few : d.bulk ≤ n
  flat : d.depth ≤ k
theorem Th.more {d : PyData} {n k n' k' : Nat} (h : Th d n k) (a : n ≤ n') (b : k ≤ k') : Th d n' k' := ⟨h.can, h.lvs, h.noT, Nat.le_trans h.few a, Nat.le_trans h.flat b⟩
theorem Th.fit {d : PyData} {n k : Nat} (h : Th d n k) (a : n ≤ 300000) (b : k ≤ 60) : FitA d := by
  have := PyData.shown_le_bulk 40 (by decide) d h.lvs
  have := h.few
  exact ⟨h.can, by omega, Nat.le_trans h.flat b, h.noT⟩
structure ThAll (ds : List PyData) (n k : Nat) : Prop where
  can : PyData.showableAll ds = true
  lvs : PyData.leavesShortAll 40 ds = true
  noT : noTKs ds = true
  few : PyData.bulkAll ds ≤ n
  flat : PyData.depthAll ds ≤ k
theorem ThAll.more {d : List PyData} {n k n' k' : Nat} (h : ThAll d n k) (a : n ≤ n') (b : k ≤ k') : ThAll d n' k' := ⟨h.can, h.lvs, h.noT, Nat.le_trans h.few a, Nat.le_trans h.flat b⟩
theorem ThAll.nil {n k : Nat} : ThAll [] n k := ⟨by simp only [PyData.showableAll], by simp only [PyData.leavesShortAll], by simp only [noTKs], by simp only [PyData.bulkAll]; omega, by simp only [PyData.depthAll]; omega⟩
theorem thAll_cons {d : PyData} {ds : List PyData} {n k : Nat} : ThAll (d :: ds) n k ↔ ∃ m, Th d m k ∧ ThAll ds (n - m - 1) k ∧ m + 1 ≤ n := by
  constructor
  · intro h
    obtain ⟨h1, h2, h3, h4, h5⟩ := h
    simp only [PyData.showableAll, PyData.leavesShortAll, noTKs, PyData.bulkAll, PyData.depthAll, Bool.and_eq_true, Nat.max_le] at h1 h2 h3 h4 h5
    exact ⟨d.bulk, ⟨h1.1, h2.1, h3.1, Nat.le_refl _, h5.1⟩, ⟨h1.2, h2.2, h3.2, by omega, h5.2⟩, by omega⟩
  · rintro ⟨m, a, b, c⟩
    have := a.few
    have := b.few
    refine ⟨?_, ?_, ?_, ?_, ?_⟩
    · simp only [PyData.showableAll, a.can, b.can, Bool.and_self]
    · simp only [PyData.leavesShortAll, a.lvs, b.lvs, Bool.and_self]
    · simp only [noTKs, a.noT, b.noT, Bool.and_self]
    · simp only [PyData.bulkAll]; omega
    · simp only [PyData.depthAll]; exact Nat.max_le.mpr ⟨a.flat, b.flat⟩
theorem bulk_app : ∀ a b : List PyData, PyData.bulkAll (a ++ b) = PyData.bulkAll a + PyData.bulkAll b
  | [], b => by simp only [List.nil_append, PyData.bulkAll, Nat.zero_add]
  | d :: a, b => by simp only [List.cons_append, PyData.bulkAll, bulk_app a b]; omega
theorem ThAll.app {a b : List PyData} {n m k : Nat} (h : ThAll a n k) (g : ThAll b m k) : ThAll (a ++ b) (n + m) k := by
  induction a generalizing n with
  | nil => exact g.more (by omega) (Nat.le_refl _)
  | cons d a ih =>
    obtain ⟨i, h1, h2, h3⟩ := thAll_cons.mp h
    exact thAll_cons.mpr ⟨i, h1, (ih h2).more (by omega) (Nat.le_refl _), by omega⟩
theorem ThAll.mem {ds : List PyData} {n k : Nat} (h : ThAll ds n k) {d : PyData} (hd : d ∈ ds) : Th d n k := by
  induction ds generalizing n with
  | nil => cases hd
  | cons e ds ih =>
    obtain ⟨i, h1, h2, h3⟩ := thAll_cons.mp h
    rcases List.mem_cons.mp hd with rfl | hd
    · exact h1.more (by omega) (Nat.le_refl _)
    · exact (ih h2 hd).more (by omega) (Nat.le_refl _)
theorem ThAll.sub {a b : List PyData} {n k : Nat} (s : a.Sublist b) (h : ThAll b n k) : ThAll a n k := by
  induction s generalizing n with
  | slnil => exact h
  | cons x _ ih =>
    obtain ⟨i, h1, h2, h3⟩ := thAll_cons.mp h
    exact (ih h2).more (by omega) (Nat.le_refl _)
  | cons_cons x _ ih =>
    obtain ⟨i, h1, h2, h3⟩ := thAll_cons.mp h
    exact thAll_cons.mpr ⟨i, h1, ih h2, h3⟩
theorem ThAll.rev {a : List PyData} {n k : Nat} (h : ThAll a n k) : ThAll a.reverse n k := by
  induction a generalizing n with
  | nil => exact h
  | cons d a ih =>
    obtain ⟨i, h1, h2, h3⟩ := thAll_cons.mp h
    rw [List.reverse_cons]
    exact ((ih h2).app (thAll_cons.mpr ⟨i, h1, ThAll.nil, Nat.le_refl (i + 1)⟩)).more (by omega) (Nat.le_refl _)
theorem ThAll.len {a : List PyData} {n k : Nat} (h : ThAll a n k) : a.length ≤ n := by
  induction a generalizing n with
  | nil => exact Nat.zero_le _
  | cons d a ih =>
    obtain ⟨i, h1, h2, h3⟩ := thAll_cons.mp h
    have := ih h2
    rw [List.length_cons]; omega
theorem Th.one {d : PyData} {n k : Nat} (h : Th d n k) : ThAll [d] (n + 1) k := thAll_cons.mpr ⟨n, h, ThAll.nil, by omega⟩
theorem th_tup {ds : List PyData} {n k : Nat} (h : ThAll ds n k) : Th (.tuple ds) n (k + 1) := ⟨by simpa only [PyData.showable] using h.can, by simpa only [PyData.leavesShort] using h.lvs, by simpa only [noTK] using h.noT, by simpa only [PyData.bulk] using h.few, by simp only [PyData.depth]; exact Nat.succ_le_succ h.flat⟩
theorem th_lst {ds : List PyData} {n k : Nat} (h : ThAll ds n k) : Th (.list ds) n (k + 1) := ⟨by simpa only [PyData.showable] using h.can, by simpa only [PyData.leavesShort] using h.lvs, by simpa only [noTK] using h.noT, by simpa only [PyData.bulk] using h.few, by simp only [PyData.depth]; exact Nat.succ_le_succ h.flat⟩
theorem th_tup_inv {ds : List PyData} {n k : Nat} (h : Th (.tuple ds) n k) : ∃ k', k = k' + 1 ∧ ThAll ds n k' := by
  have h5 := h.flat
  simp only [PyData.depth] at h5
  obtain ⟨k', rfl⟩ : ∃ z, k = z + 1 := ⟨k - 1, by omega⟩
  exact ⟨k', rfl, by simpa only [PyData.showable] using h.can, by simpa only [PyData.leavesShort] using h.lvs, by simpa only [noTK] using h.noT, by simpa only [PyData.bulk] using h.few, by omega⟩
theorem th_dict1 {x : Str} {d : PyData} {n k : Nat} (hx : (x.cps.toList.all fun c => decide (c < 16 ^ 8)) = true) (h : Th d n k) : Th (.dict [(.str x, d)]) (n + x.cps.size + 2) (k + 1) :=
  ⟨by simp only [PyData.showable, PyData.showableKv, h.can, Bool.and_self], by simp only [PyData.leavesShort, PyData.leavesShortKv, hx, h.lvs, Bool.and_self], by simp only [noTK, noTKe, h.noT, Bool.and_self], by
    have := h.few
    simp only [PyData.bulk, PyData.bulkKv]; omega, by
    have := h.flat
    simp only [PyData.depth, PyData.depthKv]; omega⟩
theorem Th.seen {d : PyData} {n k : Nat} (h : Th d n k) (hn : n ≤ 16000000) : Seen1 d := by
  refine ⟨fun x y r e => ?_, fun x e => ?_⟩
  · have := h.noT
    rw [e] at this
    simp only [noTK, noTKe] at this
    cases this
  · have := h.few
    rw [e] at this
    simp only [PyData.bulk] at this
    show x.cps.size ≤ _
    omega
theorem Th.seenT {d : PyData} {n k : Nat} (h : Th d n k) (hn : n ≤ 1000000) : SeenT d := by
  refine ⟨h.seen (by omega), fun ds e => ?_⟩
  subst e
  obtain ⟨k', rfl, a⟩ := th_tup_inv h
  exact ⟨fun e he => (a.mem he).seen (by omega), Nat.le_trans a.len hn⟩
end L2.Pu

set_option Elab.async false
set_option linter.all false
set_option maxRecDepth 100000
set_option maxHeartbeats 4000000
/-! ## More rules: texts cut, tuples some times over, things that are data or own -/
namespace L2.Pu
open PySem PySem.Spec PyProof.Rows
section
variable {X : Cx} {τ : Tb} {a b e : Expr} {qa qb : QE} {pos : Pos}
/-- an own list is handed on as data, or it is data already -/
def qFrzV (i : Nat) : QE := fun ρ κ => match ρ[i]? with
  | some (.own false (.lst ds)) => κ (.list ds) (ρ.set i (.val (.list ds)))
  | some (.val d) => κ d ρ
  | _ => False
theorem qe_frzV {i : Nat} {x : Str} {pos : Pos} (p : PE X (.Name x pos) (tVar i)) : PQ τ X (.Name x pos) (qFrzV i) := by
  refine pe_imp _ p ?_
  rintro σ H Q ⟨F, ρ, C, R, κ, k, q⟩
  unfold qFrzV at k
  split at k
  · rename_i ds e
    obtain ⟨a, hv, cp, vs, hp, hd⟩ := R.own e
    have dd : Da X.w (upd C a (.lst vs)) (.ref a) (.list ds) := .lst upd_same (own_nsys R cp) (hd.mono (same_new cp))
    obtain ⟨R', _⟩ := R.freeze e hv hp dd
    exact ⟨_, hv, q _ _ _ _ _ k (same_new cp) R' dd⟩
  · rename_i d e
    obtain ⟨v, hv, hd⟩ := R.val e
    exact ⟨v, hv, q _ _ _ _ _ k (same_refl _) R hd⟩
  · exact k.elim
/-- <= on texts -/
def leSD : D2 := fun x y P => match x, y with
  | .str a, .str b => P (.bool (!decide (b.cps.toList < a.cps.toList)))
  | _, _ => False
theorem ok_leS : OkD τ X (fun x y H Q => ∃ i j, x = .str i ∧ y = .str j ∧ Q (.bl (!decide (j.cps.toList < i.cps.toList))) H) leSD := by
  intro F ρ C σ H x y d e P Q R dx dy h z
  cases dx with
  | str a =>
    cases dy with
    | str b => exact ⟨a, b, rfl, rfl, okq R z h (.bl _)⟩
    | _ => exact h.elim
  | _ => exact h.elim
theorem qt_leS (ha : PQ τ X a qa) (hb : PQ τ X b qb) : PQT τ X (.Compare a [.LtE] [b] pos) (qB (qOp leSD qa qb)) := pt_imp _ (pt_cmpR op_le_str ha hb (nomark _)) (test_imp (op_imp ok_leS))
/-- a cut of a list, a tuple or a text -/
def qSlS (q : QE) (lo hi : QO) : QE := fun ρ κ => q ρ fun d ρ1 => lo ρ1 fun l ρ2 => hi ρ2 fun u ρ3 => match d with
  | .str z => z.length ≤ 16000000 ∧ κ (.str (cutS z l u)) ρ3
  | _ => False
theorem qe_sliceS {lo hi : Option Expr} {ql qh : QO} {p2 : Pos} (h : PQ τ X e qa) (hl : PQO τ X lo ql) (hh : PQO τ X hi qh) : PQ τ X (.Subscript e (.Slice lo hi none p2) pos) (qSlS qa ql qh) := by
  refine pe_imp _ (pe_slice sl_str h hl hh) ?_
  rintro σ H Q ⟨F, ρ, C, R, κ, k, z⟩
  refine ⟨F, ρ, C, R, _, k, fun d ρ1 v C1 H1 k1 s1 R1 d1 => ⟨F, ρ1, C1, R1, _, k1, fun l ρ2 C2 H2 k2 s2 R2 => ⟨F, ρ2, C2, R2, _, k2, fun u ρ3 C3 H3 k3 s3 R3 => ?_⟩⟩⟩
  have s13 := same_trans s1 (same_trans s2 s3)
  cases d1 with
  | str x => exact ⟨x, rfl, line_le k3.1, z _ _ _ _ _ k3.2 s13 R3 (.str _)⟩
  | _ => exact False.elim k3
/-! ### a tuple, some times over -/
theorem tuple_mul0 (l : Addr) (items : Array Value) (n : Nat) (dd : Option Addr) (sl : Array (Option Value)) (u : Tok) (hne : items.isEmpty = false) :
    Meets (Builtin.«tuple.__mul__» ⟨[.ref l, .int 0 u], []⟩) (fun _ R s => s.heap.get? l = some { cls := .type "tuple", dict := dd, data := .seq items n, slots := sl } ∧
      R (.ok (.ret (Value.ref s.heap.objs.size))) { s with heap := s.heap.push { cls := Value.type "tuple", data := Data.seq #[] }, toks := s.toks }) :=
  .of_wp fun prog w A R s h => by
    obtain ⟨hp, g, d, tk, os⟩ := s
    obtain ⟨hl, h⟩ := h
    have f1 := AutoSeq1.idx_int
    have c0 : (decide ((0 : Int) < -(2 ^ 63)) || decide ((0 : Int) ≥ 2 ^ 63)) = false := by decide
    have c1 : (items.isEmpty || (0 : Int) == 1) = false := by rw [hne]; rfl
    have c2 : (decide ((0 : Int) ≤ 0) || items.isEmpty) = true := by simp
    wp_walk using wpAny_loadPart' hl
    repeat (first
      | (refine wpAny_ite_false (decide_eq_false (by rw [c0]; exact Bool.false_ne_true)) ?_; wp_walk using wpAny_loadPart' hl)
      | (refine wpAny_ite_false (decide_eq_false (by rw [c1]; exact Bool.false_ne_true)) ?_; wp_walk using wpAny_loadPart' hl)
      | (refine wpAny_ite_true (decide_eq_true c2) ?_; wp_walk using wpAny_loadPart' hl)
      | (refine wpAny_ite_false (decide_eq_false (Nat.not_lt.mpr (Nat.zero_le _))) ?_; wp_walk using wpAny_loadPart' hl))
    exact ⟨_, rfl, h⟩
theorem tuple_mul1 (l : Addr) (items : Array Value) (n : Nat) (dd : Option Addr) (sl : Array (Option Value)) (u : Tok) :
    Meets (Builtin.«tuple.__mul__» ⟨[.ref l, .int 1 u], []⟩) (fun _ R s => s.heap.get? l = some { cls := .type "tuple", dict := dd, data := .seq items n, slots := sl } ∧
      R (.ok (.ret (Value.ref l))) s) :=
  .of_wp fun prog w A R s h => by
    obtain ⟨hp, g, d, tk, os⟩ := s
    obtain ⟨hl, h⟩ := h
    have f1 := AutoSeq1.idx_int
    have c0 : (decide ((1 : Int) < -(2 ^ 63)) || decide ((1 : Int) ≥ 2 ^ 63)) = false := by decide
    have c1 : (items.isEmpty || (1 : Int) == 1) = true := by simp
    wp_walk using wpAny_loadPart' hl
    repeat (first
      | (refine wpAny_ite_false (decide_eq_false (by rw [c0]; exact Bool.false_ne_true)) ?_; wp_walk using wpAny_loadPart' hl)
      | (refine wpAny_ite_true (decide_eq_true c1) ?_; wp_walk using wpAny_loadPart' hl))
    exact ⟨_, rfl, h⟩
/-- a tuple, k times over: itself for one, else a new one -/
def rRepF (K : PySem.W.Frag) : R2 := fun x y H Q => ∃ l k xs, x = .ref l ∧ y = .int k ∧ SqT K H l xs ∧ xs ≠ [] ∧ 0 ≤ k ∧ k ≤ 1000 ∧ xs.length ≤ 1000 ∧ (k = 1 → Q (.ref l) H) ∧ (k ≠ 1 → ∀ p o, H p = none → Fine o (List.replicate k.toNat xs).flatten → Q (.ref p) (upd H p o))
theorem op_repF : OpR X (binaryOp .Mult) (rRepF X.K) := by
  intro pins s σ H x y v u Q I rx ry h
  obtain ⟨l, k, xs, rfl, rfl, hT, hne, h1, h2, hz, q1, q2⟩ := h
  cases rx
  obtain ⟨t, rfl⟩ := ry
  obtain ⟨its, r, ⟨⟨cls, dd, data, sl⟩, ho, hc, n, hd⟩, hs⟩ := I.tuple hT
  simp only at hc hd
  subst hc hd
  have hle : its.length = xs.length := r.length.symm
  have hn : its ≠ [] := fun e => hne (by
    rw [e] at hle
    exact List.eq_nil_of_length_eq_zero hle.symm)
  have hi : its.toArray.isEmpty = false := by
    cases its with
    | nil => exact absurd rfl hn
    | cons a b => rfl
  have hsz0 : its.toArray.size = xs.length := by rw [List.size_toArray, hle]
  have hm : ((its.toArray.size : Nat) : Int) * k ≤ 1000000 := by
    rw [hsz0]
    have a1 : ((xs.length : Nat) : Int) * k ≤ 1000 * k := Int.mul_le_mul_of_nonneg_right (by omega) (by omega)
    omega
  have flen : (List.replicate k.toNat its).flatten.length ≤ sizeLine := by
    rw [PyProof.Rows.lm_len_rep_flat, hle, sizeLine_eq]
    have a1 : k.toNat * xs.length ≤ 1000 * 1000 := Nat.mul_le_mul (by omega) hz
    omega
  have flenx : (List.replicate k.toNat xs).flatten.length ≤ sizeLine := by
    rw [PyProof.Rows.lm_len_rep_flat, sizeLine_eq]
    have a1 : k.toNat * xs.length ≤ 1000 * 1000 := Nat.mul_le_mul (by omega) hz
    omega
  by_cases k0 : k = 0
  · subst k0
    refine wpAny_binaryOp_repeat_ref (T := "tuple") (U := "int") (by decide) ⟨_, ho, rfl⟩ (fun s' => typeIs_int s' 0 t) noFill_tuple_mul F.fills_int_mul F.slot_int_rmul repeat_tuple F.slot_int_index.lookup
      (call_meets F.slot_int_rmul (typeIs_int s 0 t) F.entry_int_rmul (F.args_int_rmul_2 _ _) (int_rmul_tuple 0 t l its.toArray n dd sl)
        ⟨ho, rfl, ⟨_, ho, rfl⟩, call_meets F.slot_tuple_mul ⟨_, ho, rfl⟩ F.entry_tuple_mul (F.args_tuple_mul_2 _ _) (tuple_mul0 l its.toArray n dd sl t hi) ⟨ho, ?_⟩⟩)
    exact ⟨.ref s.heap.objs.size, _, I.laid (t' := s.toks) (fun b ob q => Heap.get?_push_of_some _ q) (Nat.le_refl _) (tup_new (its := []) flenx (by exact .nil)), rfl, q2 (by decide) _ _ (I.hok.fresh (Nat.le_refl _)) ⟨_, rfl, rfl⟩⟩
  by_cases k1 : k = 1
  · subst k1
    refine wpAny_binaryOp_repeat_ref (T := "tuple") (U := "int") (by decide) ⟨_, ho, rfl⟩ (fun s' => typeIs_int s' 1 t) noFill_tuple_mul F.fills_int_mul F.slot_int_rmul repeat_tuple F.slot_int_index.lookup
      (call_meets F.slot_int_rmul (typeIs_int s 1 t) F.entry_int_rmul (F.args_int_rmul_2 _ _) (int_rmul_tuple 1 t l its.toArray n dd sl)
        ⟨ho, rfl, ⟨_, ho, rfl⟩, call_meets F.slot_tuple_mul ⟨_, ho, rfl⟩ F.entry_tuple_mul (F.args_tuple_mul_2 _ _) (tuple_mul1 l its.toArray n dd sl t) ⟨ho, ?_⟩⟩)
    exact ⟨.ref l, H, I, rfl, q1 rfl⟩
  have c0 : (decide (k < -(2 ^ 63)) || decide (k ≥ 2 ^ 63)) = false := by
    rw [decide_eq_false (by omega), decide_eq_false (by omega)] <;> rfl
  have c1 : (its.toArray.isEmpty || k == 1) = false := by
    rw [hi, Bool.false_or]
    exact beq_eq_false_iff_ne.mpr (by omega)
  have c2 : (decide (k ≤ 0) || its.toArray.isEmpty) = false := by
    rw [hi, Bool.or_false]
    exact decide_eq_false (by omega)
  have c4 : Builtin.Tuple.tupleTooMany (((its.toArray.size : Nat) : Int) * k) = false := by
    unfold Builtin.Tuple.tupleTooMany
    rw [sizeLine_eq]
    exact decide_eq_false (by omega)
  refine wpAny_binaryOp_repeat_ref (T := "tuple") (U := "int") (by decide) ⟨_, ho, rfl⟩ (fun s' => typeIs_int s' k t) noFill_tuple_mul F.fills_int_mul F.slot_int_rmul repeat_tuple F.slot_int_index.lookup
    (call_meets F.slot_int_rmul (typeIs_int s k t) F.entry_int_rmul (F.args_int_rmul_2 _ _) (int_rmul_tuple k t l its.toArray n dd sl)
      ⟨ho, rfl, ⟨_, ho, rfl⟩, call_meets F.slot_tuple_mul ⟨_, ho, rfl⟩ F.entry_tuple_mul (F.args_tuple_mul_2 _ _) (tuple_mulW l its.toArray n dd sl k t c0 c1 c2 (by omega) c4 (by rw [size_rep, List.size_toArray]; exact flen)) ⟨ho, ?_⟩⟩)
  rw [size_rep]
  exact ⟨.ref s.heap.objs.size, _, I.laid (t' := s.toks) (fun b ob q => Heap.get?_push_of_some _ q) (Nat.le_refl _) (tup_new flenx (r.rep k.toNat)), rfl, q2 k1 _ _ (I.hok.fresh (Nat.le_refl _)) ⟨_, rfl, rfl⟩⟩
theorem DaAll.repT {w : World} {C : Hp} {vs : List V} {ds : List PyData} (h : DaAll w C vs ds) : ∀ n : Nat, DaAll w C (List.replicate n vs).flatten (List.replicate n ds).flatten
  | 0 => .nil
  | n + 1 => by
    rw [List.replicate_succ, List.replicate_succ, List.flatten_cons, List.flatten_cons]
    exact h.append (DaAll.repT h n)
def mulTD : D2 := fun x y P => match x, y with
  | .tuple a, .int k => (a.isEmpty = false ∧ 0 ≤ k ∧ k ≤ 1000 ∧ a.length ≤ 1000) ∧ P (.tuple (List.replicate k.toNat a).flatten)
  | _, _ => False
theorem ok_mulT : OkD τ X (rRepF X.K) mulTD := by
  intro F ρ C σ H x y d e P Q R dx dy h z
  cases dx with
  | @tup a oa xs ds ea na da =>
    cases dy with
    | int k =>
      obtain ⟨⟨h0, h1, h2, hl⟩, h⟩ := h
      have ne : xs ≠ [] := by
        rintro rfl
        cases da
        cases h0
      rw [← da.length] at hl
      refine ⟨a, k, xs, rfl, rfl, sqF (R.sub _ _ ea), ne, h1, h2, hl, fun e => ?_, fun _ p o np fo => ?_⟩
      · subst e
        have e1 : (List.replicate (1 : Int).toNat ds).flatten = ds := by
          show (List.replicate 1 ds).flatten = ds
          simp
        rw [e1] at h
        exact okq R z h (.tup ea na da)
      · obtain ⟨ob, rfl, hd⟩ := fo
        have cp := sub_none R.sub np
        exact z _ _ _ _ h (same_new cp) (R.lay np) (.tup upd_same hd ((da.repT k.toNat).mono (same_new cp)))
    | _ => exact h.elim
  | _ => exact h.elim
theorem qe_mulT (ha : PQ τ X a qa) (hb : PQ τ X b qb) : PQ τ X (.BinOp a .Mult b pos) (qOp mulTD qa qb) := pe_imp _ (pe_op op_repF ha hb) (op_imp ok_mulT)
end
end L2.Pu
namespace L2.Pu
open PySem PySem.Spec PyProof.Rows
section
variable {X : Cx} {τ : Tb} {e : Expr} {pos : Pos} {i : Nat}
/-- a cut of a list that a name holds as its own -/
def qSlL (i : Nat) (lo hi : QO) : QE := fun ρ κ => (datAt ρ i).isSome = true ∧ lo ρ fun l ρ1 => hi ρ1 fun u ρ2 => match datAt ρ2 i with
  | some (.list ds) => κ (.list (cutD ds l u)) ρ2
  | _ => False
theorem qe_sliceL {lo hi : Option Expr} {ql qh : QO} {p2 : Pos} (h : PE X e (tVar i)) (hl : PQO τ X lo ql) (hh : PQO τ X hi qh) : PQ τ X (.Subscript e (.Slice lo hi none p2) pos) (qSlL i ql qh) := by
  refine pe_imp _ (pe_slice sl_list h hl hh) ?_
  rintro σ H Q ⟨F, ρ, C, R, κ, ⟨k0, k⟩, z⟩
  obtain ⟨d0, e0⟩ := Option.isSome_iff_exists.mp k0
  obtain ⟨v, hv, _⟩ := R.bo e0
  refine ⟨v, hv, F, ρ, C, R, _, k, fun l ρ2 C2 H2 k2 s2 R2 => ⟨F, ρ2, C2, R2, _, k2, fun u ρ3 C3 H3 k3 s3 R3 => ?_⟩⟩
  split at k3
  · rename_i ds hx
    obtain ⟨v', hv', b'⟩ := R3.bo hx
    rw [hv] at hv'; cases hv'
    cases b' with
    | lst ea ha =>
      refine ⟨_, _, rfl, SqL.of ea, fun q nq => ?_⟩
      have cp := sub_none R3.sub nq
      exact z _ _ _ _ _ k3 (same_trans s2 (same_trans s3 (same_new cp))) (R3.lay nq) (.lst upd_same (R3.nsys nq) ((cut_all ha).mono (same_new cp)))
  · exact False.elim k3
end
end L2.Pu

set_option Elab.async false
set_option linter.all false
set_option maxRecDepth 100000
set_option maxHeartbeats 4000000
/-! ## try .. except C as n, what is caught stays tracked -/
namespace L2.Pu
open PySem PySem.Spec PyProof.Rows
theorem xo_ok {P : Program} {w : World} {H : Hp} {h : Heap} {c dx a : Addr} {oe : Obj} {vs : Array Value} (e : h.get? a = some oe) (z : Zc (.ref c) (some dx) oe) (d : oe.data = .fields vs) : ObjOk P w H h a (Xo c dx a) :=
  ⟨⟨oe, vs, e, z, d⟩, ⟨oe, e⟩, fun _ _ ⟨o, v, q, r⟩ k => ⟨o, v, k o q, r⟩⟩
/-- an object that stands there untracked is tracked from now on -/
theorem Inv.track {X : Cx} {pins : List (Addr × Obj)} {σ : St} {H : Hp} {s : Shared} {a : Addr} {oe : Obj} {vs : Array Value} {o : HO} (I : Inv X pins σ H s) (ha : s.heap.get? a = some oe) (hd : oe.data = .fields vs) (na : H a = none) (nL : a ≠ X.env.locals)
    (nP : ∀ p ∈ X.pn ++ pins, p.1 ≠ a) (n0 : X.s_0.heap.get? a = none) (new : ObjOk X.prog X.w (upd H a o) s.heap a o) : Inv X pins σ (upd H a o) s := by
  refine ⟨I.ok, I.os, I.bare, ?_, I.loc, I.cell, ?_, fun x c e => ?_, fun p hp => ?_, ?_, I.len⟩
  · exact { keep := I.base.keep
            slot := I.base.slot
            free := fun b u q n hx => by
              rw [upd_ne (fun e => by rw [e, n0] at q; cases q)]
              exact I.base.free b u q n hx
            there := I.base.there
            tups := fun b xs q => by
              have := I.base.tups b xs q
              rw [upd_ne (ne_of_none this na)]; exact this
            frzs := fun b u v q => by
              have := I.base.frzs b u v q
              rw [upd_ne (ne_of_none this na)]; exact this
            tbls := fun b ps q => by
              obtain ⟨more, h⟩ := I.base.tbls b ps q
              exact ⟨more, by rw [upd_ne (ne_of_none h na)]; exact h⟩ }
  · rw [upd_ne (Ne.symm nL)]; exact I.free
  · obtain ⟨v, hc⟩ := I.cell x c e
    have ne : c ≠ a := fun z => by
      subst z
      obtain ⟨oc, e1, e2⟩ := hc
      rw [ha] at e1; cases e1
      rw [hd] at e2; cases e2
    rw [upd_ne ne]; exact I.freeC x c e
  · obtain ⟨h1, h2, h3⟩ := I.pin p hp
    exact ⟨h1, by rw [upd_ne (nP p hp)]; exact h2, h3⟩
  · exact I.hok.laidN (fun _ _ q => q) na new
/-- what the clause 'except x as n' wishes: the exception is tracked, slot i is n's -/
def wTrk (K : PySem.W.Frag) (c : Value) (i : Nat) (ts : Addr → TS) (D : Ends) : WX := fun cls d σ H =>
  ∃ Cc dx, cls = .ref Cc ∧ d = some dx ∧ PySem.W.exmOne K cls c = some true ∧ ∀ a, H a = none → ts a { nx := fun σ' H' => D.nx (σ'.set i none) H', rt := D.rt, bk := fun σ' H' => D.bk (σ'.set i none) H', ct := fun σ' H' => D.ct (σ'.set i none) H' } (σ.set i (some (.ref a))) (upd H a (Xo Cc dx a))
theorem inv_suite0 {X : Cx} {pins : List (Addr × Obj)} {σ : St} {H : Hp} {s : Shared} (I : Inv X pins σ H s) (a : Addr) : Inv (X.suite a (X.pn ++ pins)) [] σ H s :=
  ⟨I.ok.suite _ _, I.os, I.bare, I.base, I.loc, I.cell, I.free, I.freeC, fun p hp => I.pin p (by rw [List.append_nil] at hp; exact hp), I.hok, I.len⟩
theorem inv_unsuite0 {X : Cx} {pins pn' : List (Addr × Obj)} {σ : St} {H : Hp} {s : Shared} {a : Addr} (I : Inv (X.suite a (X.pn ++ pins)) pn' σ H s) (ok : X.Ok) : Inv X pins σ H s :=
  ⟨ok, I.os, I.bare, I.base, I.loc, I.cell, I.free, I.freeC, fun p hp => I.pin p (List.mem_append_left _ hp), I.hok, I.len⟩
section
variable {X : Cx} {x n : Str} {c : Value} {i : Nat} {body suite : List Stmt} {b₀ : Stmt} {np pos pos' : Pos} {tb : WX → TS} {ts : Addr → TS}
theorem ps_try_trk (hs : X.stack = X.env :: X.outer) (hf : X.env.frame = some X.env.locals) (hex : X.ex = []) (hN : X.N.Nodup) (hi : X.N[i]? = some n) (hln : X.env.kindOf n = some .local) (hc : Names X x c)
    (hb : ∀ (W : WX) (pn : List (Addr × Obj)) (xe : Value → Shared → Prop), Takes (X.tr pn xe) W → PassesOwn (model X.prog X.w) X.A X.env xe → PSs (X.tr pn xe) body (tb W))
    (hsu : ∀ (a : Addr) (pn : List (Addr × Obj)), PSs (X.suite a pn) (b₀ :: suite) (ts a)) :
    PS X (.Try body [.ExceptHandler (some (.Name x np)) (some n) (b₀ :: suite) pos'] [] [] pos) (fun D σ H => tb (wTrk X.K c i ts D) D σ H) := by
  refine ⟨fun pins s σ H D I h => ?_⟩
  have ok := I.ok
  have hfr : X.A.frames = some (X.env :: X.outer) := by rw [ok.frames, hs]
  have hloc : Loc X.env.scope n := .inl hln
  refine wpAny_Try_except ?_
  refine wpAny_mono ((hb (wTrk X.K c i ts D) (X.pn ++ pins) (fun e s₁ => wpAny (model X.prog X.w) X.A (noteFrame e X.env) (fun _ s₂ => wpAny (model X.prog X.w) X.A (setFlight e none) (fun _ s₃ =>
    wpAny (model X.prog X.w) X.A (handleBy e X.env [.ExceptHandler (some (.Name x np)) (some n) (b₀ :: suite) pos']) (SP X pins D) X.xe s₃) X.xe s₂) X.xe s₁) (fun u s' xx => ?_) PassesOwn.looking).run [] s σ H D (I.toTry _) h) (fun f s1 hsp => ?_) (fun e s1 he => he)
  · obtain ⟨a, B, sI, pins', σ', H', cls, d, rfl, J', nb, up, sky, na, os, ag, Cc, dx, rfl, rfl, hb1, hyes⟩ := xx
    have J : Inv X pins σ' H' sI := J'.ofTry ok
    have sky' : Sky B (X.env :: X.outer) a (Zc (.ref Cc) (some dx)) X.env.locals s'.heap := by rw [← hs]; exact sky
    show wpAny (model X.prog X.w) X.A (noteFrame (.ref a) X.env) _ _ _
    refine Sky.land Zc.steady hfr hf sky' fun h3 fl3 up3 => ?_
    have J3 : Inv X pins σ' H' { s' with heap := h3 } := J.landed nb fl3.1 (up.trans up3) os ag
    obtain ⟨oe3, vs3, he3, hz3, hd3⟩ := fl3.there
    have notFr : ∀ {h : Heap} {o : Obj} {vs : Array Value}, h.FunFrames B (X.env :: X.outer) → h.get? a = some o → o.data = .fields vs → a ∉ frs (X.env :: X.outer) := fun {h o vs} ff e dd hm => by
      obtain ⟨_, o', e', hnf⟩ := ff.mem hm
      rw [e] at e'; cases e'
      exact hnf _ dd
    have nfr := notFr fl3.2.2.1 he3 hd3
    have nL : a ≠ X.env.locals := fun z => nfr (List.mem_filterMap.mpr ⟨X.env, List.mem_cons_self, by rw [hf, z]⟩)
    have nF : a ∉ X.fs := fun hm => by
      obtain ⟨e, he, q⟩ := List.mem_filterMap.mp hm
      exact nfr (List.mem_filterMap.mpr ⟨e, List.mem_cons_of_mem _ he, q⟩)
    have nI : sI.heap.get? a = none := by
      cases q : sI.heap.get? a with
      | none => rfl
      | some o =>
        have := nb a o q (by rw [hs]; exact nfr)
        rw [fl3.2.1] at this; cases this
    have n0 : X.s_0.heap.get? a = none := by
      cases q : X.s_0.heap.get? a with
      | none => rfl
      | some o =>
        obtain ⟨o', e'⟩ := J.base.there a o q (by rw [hex]; simp)
        rw [nI] at e'; cases e'
    have nP : ∀ p ∈ X.pn ++ pins, p.1 ≠ a := fun p hp e => by
      have := (J.pin p hp).1
      rw [e, nI] at this; cases this
    have S3 := J3.suite he3 hd3 na nL nF
    refine wpAny_handleBy_cons (codeAny_handlers_test ?_) (by intro q; cases q)
    have LT : PySem.W.Looks (model X.prog X.w) h3 (typeOf (.ref a)) (.ref Cc) := fun A Q E s k q => wpAny_typeOf_ref (k _ _ he3) (by rw [hz3.1]; exact q)
    have LM := PySem.W.exm_one (M := model X.prog X.w) (J3.kIn) LT hb1
    have test : ∀ {Q : Value → Shared → Prop} {E : Value → Shared → Prop}, Q c { s' with heap := h3 } → wpAny (model X.prog X.w) (X.A.mark (some (.ref a))) (eval (.Name x np) X.env) Q E { s' with heap := h3 } := fun {Q E} q => by
      obtain ⟨hg, hdbg, hm | ⟨hm, hv, hnn⟩⟩ := hc
      · exact ld_glob (X := X.suite a ((a, oe3) :: (X.pn ++ pins))) S3 hg hm q hdbg
      · exact ld_blt (X := X.suite a ((a, oe3) :: (X.pn ++ pins))) S3 hg hm hv q hnn hdbg
    refine test (LM.here ?_)
    refine codeAny_handlers_suite_as ?_
    refine HandSPX.lands_againZ fl3 fun h4 fl4 up4 => ?_
    have J4 : Inv X pins σ' H' { s' with heap := h4 } := J.landed nb fl4.1 ((up.trans up3).trans up4) os ag
    obtain ⟨oe4, vs4, he4, hz4, hd4⟩ := fl4.there
    have S4 := inv_suite0 (Inv.track (o := Xo Cc dx a) J4 he4 hd4 na nL nP n0 (xo_ok he4 hz4 hd4)) a
    refine store_ok (X := X.suite a (X.pn ++ pins)) (v := .ref a) S4 hN hi hloc rfl (fun s5 S5 => ?_) (.inr hln)
    refine wpAny_mono ((hsu a (X.pn ++ pins)).run [] s5 _ _ _ S5 (hyes a na)) (fun f s6 hsp => ?_) (fun _ _ z => False.elim z)
    have end_ : ∀ {σ6 : St} {H6 : Hp} {Q : Shared → Prop}, Inv (X.suite a (X.pn ++ pins)) [] σ6 H6 s6 → (∀ s7, Inv X pins (σ6.set i none) H6 s7 → Q s7) →
        wpAny (model X.prog X.w) X.A (do bindName X.env n .none; unbindBehindTheSuite X.env n pos') (fun _ s7 => Q s7) X.xe s6 := fun {σ6 H6 Q} S6 hq => gone_ok (inv_unsuite0 S6 ok) hN hi hln hq
    cases f with
    | next =>
      obtain ⟨σ6, H6, S6, q6⟩ := hsp
      exact end_ S6 fun s7 J7 => ⟨_, _, J7, q6⟩
    | brk =>
      obtain ⟨σ6, H6, S6, q6⟩ := hsp
      exact end_ S6 fun s7 J7 => ⟨_, _, J7, q6⟩
    | cont =>
      obtain ⟨σ6, H6, S6, q6⟩ := hsp
      exact end_ S6 fun s7 J7 => ⟨_, _, J7, q6⟩
    | ret u =>
      obtain ⟨v6, σ6, H6, S6, r6, q6⟩ := hsp
      exact end_ S6 fun s7 J7 => ⟨_, _, _, J7, r6, q6⟩
  · cases f with
    | next =>
      obtain ⟨σ', H', J', q⟩ := hsp
      exact wpAny_execs_nil ⟨σ', H', J'.ofTry ok, q⟩
    | brk =>
      obtain ⟨σ', H', J', q⟩ := hsp
      exact ⟨σ', H', J'.ofTry ok, q⟩
    | cont =>
      obtain ⟨σ', H', J', q⟩ := hsp
      exact ⟨σ', H', J'.ofTry ok, q⟩
    | ret u =>
      obtain ⟨v, σ', H', J', r, q⟩ := hsp
      exact ⟨v, σ', H', J'.ofTry ok, r, q⟩
end
end L2.Pu

set_option Elab.async false
set_option linter.all false
set_option maxRecDepth 100000
set_option maxHeartbeats 4000000
/-! ## Ways that raise -/
namespace L2.Pu
open PySem PySem.Spec PyProof.Rows
/-- a way that raises: the class, the value, the state then -/
abbrev QR := Ro → (Addr → PyData → Ro → Prop) → Prop
/-- what is raised is taken -/
def XW (T : PK) (F : Fm) (C : Hp) (W : WX) (σ? : Option St) (ε : Addr → PyData → Ro → Prop) : Prop :=
  ∀ (c : Addr) (d : PyData) (ρ' : Ro) (v : V) (C' : Hp) (σ' : St) (H' : Hp) (dx : Addr), (∀ σ, σ? = some σ → σ' = σ) → ε c d ρ' → Same C C' → Rep T F ρ' C' σ' H' → Da T.w C' v d → H' dx = none → W (.ref c) (some dx) σ' (upd H' dx (.xd [("value", v)]))
theorem XW.on {T : PK} {F : Fm} {C C1 : Hp} {W : WX} {σ? : Option St} {ε : Addr → PyData → Ro → Prop} (h : XW T F C W σ? ε) (s : Same C C1) : XW T F C1 W σ? ε := fun c d ρ' v C' σ' H' dx a b s' => h c d ρ' v C' σ' H' dx a b (same_trans s s')
theorem XW.at {T : PK} {F : Fm} {C : Hp} {W : WX} {σ : St} {ε : Addr → PyData → Ro → Prop} (h : XW T F C W none ε) : XW T F C W (some σ) ε := fun c d ρ' v C' σ' H' dx _ => h c d ρ' v C' σ' H' dx (fun _ z => nomatch z)
def liftSR (T : PK) (W : WX) (r : QR) : TS := fun _ σ H => ∃ F ρ C, Rep T F ρ C σ H ∧ ∃ ε, r ρ ε ∧ XW T F C W none ε
def liftER (T : PK) (W : WX) (r : QR) : TE := fun σ H _ => ∃ F ρ C, Rep T F ρ C σ H ∧ ∃ ε, r ρ ε ∧ XW T F C W (some σ) ε
def liftAR (T : PK) (W : WX) (r : QR) : TA := fun σ H _ => ∃ F ρ C, Rep T F ρ C σ H ∧ ∃ ε, r ρ ε ∧ XW T F C W (some σ) ε
abbrev PQR (τ : Tb) (X : Cx) (W : WX) (e : Expr) (r : QR) : Prop := PE X e (liftER (X.pk τ) W r)
abbrev PQAR (τ : Tb) (X : Cx) (W : WX) (es : List Expr) (r : QR) : Prop := PA X es (liftAR (X.pk τ) W r)
abbrev PQSR (τ : Tb) (X : Cx) (W : WX) (s : Stmt) (r : QR) : Prop := PS X s (liftSR (X.pk τ) W r)
abbrev PQSsR (τ : Tb) (X : Cx) (W : WX) (ss : List Stmt) (r : QR) : Prop := PSs X ss (liftSR (X.pk τ) W r)
section
variable {X : Cx} {τ : Tb} {W : WX} {st : Stmt} {rest : List Stmt} {e : Expr} {es : List Expr} {q : QE} {r r' : QR} {pos p : Pos}
def rNo : QR := fun _ _ => False
theorem qsr_no : PQSR τ X W st rNo := ⟨fun pins s σ H D I h => by obtain ⟨F, ρ, C, R, ε, k, _⟩ := h; exact False.elim k⟩
theorem qssr_no {sts : List Stmt} : PQSsR τ X W sts rNo := ⟨fun pins s σ H D I h => by obtain ⟨F, ρ, C, R, ε, k, _⟩ := h; exact False.elim k⟩
theorem pss_false {sts : List Stmt} : PSs X sts (fun _ _ _ => False) := ⟨fun pins s σ H D I h => False.elim h⟩
theorem pa_false {xs : List Expr} : PA X xs (fun _ _ _ => False) := ⟨fun pos pins s σ H Q I h => False.elim h⟩
/-- it is raised here -/
theorem qssr_here (h : PQSR τ X W st r) : PQSsR τ X W (st :: rest) r := pss_imp _ (pss_cons h pss_false) fun _ _ _ h => h
/-- .. or further on -/
def rSeq (t : QS) (r : QR) : QR := fun ρ ε => t { nx := fun ρ1 => r ρ1 ε, rt := fun _ _ => False } ρ
theorem qssr_next {t : QS} (h1 : PQS τ X st t) (h2 : PQSsR τ X W rest r) : PQSsR τ X W (st :: rest) (rSeq t r) := by
  refine pss_imp _ (pss_cons h1 h2) ?_
  rintro D σ H ⟨F, ρ, C, R, ε, k, xw⟩
  exact ⟨F, ρ, C, R, _, k, fun ρ1 C1 σ1 H1 k1 s1 R1 => ⟨F, ρ1, C1, R1, ε, k1, xw.on s1⟩, fun _ _ _ _ _ _ z => False.elim z, fun _ _ _ _ z => False.elim z, fun _ _ _ _ z => False.elim z⟩
def rOr (r r' : QR) : QR := fun ρ ε => r ρ ε ∨ r' ρ ε
theorem qssr_or {sts : List Stmt} (h1 : PQSsR τ X W sts r) (h2 : PQSsR τ X W sts r') : PQSsR τ X W sts (rOr r r') := ⟨fun pins s σ H D I h => by
  obtain ⟨F, ρ, C, R, ε, k, xw⟩ := h
  exact k.elim (fun k => h1.run pins s σ H D I ⟨F, ρ, C, R, ε, k, xw⟩) fun k => h2.run pins s σ H D I ⟨F, ρ, C, R, ε, k, xw⟩⟩
def rIf (c : QT) (r r' : QR) : QR := fun ρ ε => c ρ fun b ρ1 => yn b (r ρ1 ε) (r' ρ1 ε)
theorem qsr_if {c : Expr} {a b : List Stmt} {qc : QT} (hc : PQT τ X c qc) (ha : PQSsR τ X W a r) (hb : PQSsR τ X W b r') : PQSR τ X W (.If c a b pos) (rIf qc r r') := by
  refine ps_imp _ (ps_if hc ha hb) ?_
  rintro D σ H ⟨F, ρ, C, R, ε, k, xw⟩
  refine ⟨F, ρ, C, R, _, k, fun b ρ1 C1 H1 k1 s1 R1 => ?_⟩
  cases b with
  | true => exact ⟨F, ρ1, C1, R1, ε, k1, xw.on s1⟩
  | false => exact ⟨F, ρ1, C1, R1, ε, k1, xw.on s1⟩
theorem er_sr : ∀ {Q : VK} σ H, (∃ F ρ C, Rep (X.pk τ) F ρ C σ H ∧ ∃ ε, r ρ ε ∧ XW (X.pk τ) F C W none ε) → liftER (X.pk τ) W r σ H Q := fun σ H ⟨F, ρ, C, R, ε, k, xw⟩ => ⟨F, ρ, C, R, ε, k, xw.at⟩
theorem qsr_ret (h : PQR τ X W e r) : PQSR τ X W (.Return (some e) pos) r := ps_imp _ (ps_ret h) fun _ σ H h => er_sr σ H h
theorem qsr_expr (h : PQR τ X W e r) (hs : swapsWith e none pos.line X.env = pure false := by rfl) : PQSR τ X W (.Expr e pos) r := ps_imp _ (ps_expr h hs) fun _ σ H h => er_sr σ H h
theorem qsr_set {i : Nat} {x : Str} {pos' : Pos} (hN : X.N.Nodup) (hi : X.N[i]? = some x) (hx : Loc X.env.scope x) (h : PQR τ X W e r) (hs : swapsWith e (some (.Name x pos')) pos.line X.env = pure false := by rfl) (hf : X.fn x = true ∨ X.env.scope.names.lookup x = some .local := by first | exact .inl rfl | exact .inr rfl | assumption) :
    PQSR τ X W (.Assign [.Name x pos'] e pos) r := ps_imp _ (ps_set hN hi hx h hs hf) fun _ σ H h => er_sr σ H h
/-- arguments: it is raised here, or further on -/
theorem qar_here (h : PQR τ X W e r) (hs : starEach (e :: es) X.env = (false, eval e X.env) :: starEach es X.env := by rfl) : PQAR τ X W (e :: es) r := pa_imp _ (pa_cons h pa_false hs) fun _ _ _ h => h
def rNext (q : QE) (r : QR) : QR := fun ρ ε => q ρ fun _ ρ1 => r ρ1 ε
theorem qar_next (h : PQ τ X e q) (t : PQAR τ X W es r) (hs : starEach (e :: es) X.env = (false, eval e X.env) :: starEach es X.env := by rfl) : PQAR τ X W (e :: es) (rNext q r) := by
  refine pa_imp _ (pa_cons h t hs) ?_
  rintro σ H Q ⟨F, ρ, C, R, ε, k, xw⟩
  exact ⟨F, ρ, C, R, _, k, fun d ρ1 v C1 H1 k1 s1 R1 d1 => ⟨F, ρ1, C1, R1, ε, k1, xw.on s1⟩⟩
/-- a tuple, one of whose items raises -/
theorem qer_tup {x1} (h : PQAR τ X W es r) : PQR τ X W (.Tuple es x1 pos) r := pe_imp _ (pe_tupF h) fun _ _ _ h => h
end
/-! ### defs that raise -/
/-- what a def promises of a way that raises -/
abbrev PSx := List Slot → (Addr → PyData → List Slot → Prop) → Prop
def liftPX (T : PK) (sp : PSx) : Sp := fun vs H _ E => ∃ C ss, Stand T C H ss vs ∧ ∃ ε, sp ss ε ∧ ∀ (c : Addr) (d : PyData) (ss' : List Slot) (v : V) (C' H' : Hp) (dx : Addr), ε c d ss' → Same C C' → Rep T ⟨C, H, refsAt 0 ss vs⟩ ss' C' (vs.map some) H' → Da T.w C' v d → H' dx = none → E (.ref c) (some dx) (upd H' dx (.xd [("value", v)]))
structure PFnX (τ : Tb) (P : Program) (w : World) (K : PySem.W.Frag) (mg : Str → Option Value) (base : Heap) (k : Nat) (x : Str) (ps : List Str) (sp : PSx) : Prop where
  ex : ∃ f fd, Fu.FnG P w K mg base (L2.CX P w) k f fd ps (liftPX ⟨P, w, K, τ, base⟩ sp) ∧ mg x = some (.ref f) ∧ PySem.W.keepIn K (.ref f) = true ∧ Binds K fd ps []
section
variable {X : Cx} {τ : Tb} {W : WX} {pos p : Pos} {e : Expr} {es : List Expr} {r : QR}
/-- f(e, ..), which raises -/
def rCall (sp : PSx) (as : List CArg) : QR := fun ρ ε => qArgs as ρ fun ss ρ1 => sp ss fun c d ss' => ε c d (putBack ρ1 as ss' (wipeR ρ1 (refsOf as)))
theorem qer_call {k : Nat} {x : Str} {ps : List Str} {sp : PSx} {as : List CArg} (tk : Takes X W) (G : PFnX τ X.prog X.w X.K X.mg X.base k x ps sp) (gd : X.A.guards = some []) (hr : Room k X.A) (hg : Gl X x) (ha : PQC τ X (e :: es) as) (ap : Apart as)
    (hdb : (x == ("__debug__" : Str)) = false := by decide) (he : starEach (e :: es) X.env = (false, eval e X.env) :: starEach es X.env := by rfl) (hpl : (backTo pos (starEach es X.env)).any (·.1) = false := by rfl) :
    PQR τ X W (.Call (.Name x p) (e :: es) [] pos) (rCall sp as) := by
  obtain ⟨f, fd, Fn, hm, hk, hb⟩ := G.ex
  refine ⟨fun pins s σ H Q I h => wpAny_Call_Name_kw (ld_glob I hg hm ?_ hdb)⟩
  obtain ⟨F, ρ, C, R, ε, kq, xw⟩ := h
  refine PySem.W.callWith_K (h₀ := X.base) I.ok.mod.kin hk (thn (ha.run pos pins s σ H (fun vs H1 => liftPX (X.pk τ) sp vs H1 Q fun cls d H' => W cls d σ H') I ⟨F, ρ, C, R, _, kq, fun ss ρ1 vs C1 H1 k1 s1 R1 A1 => ?_⟩) fun us s1 hh => ?_) he hpl
  · refine ⟨C1, ss, R1.stand A1 ap, _, k1, fun c d ss' v C2 H2 dx k2 s2 R2 d2 n2 => ?_⟩
    exact xw c d _ v C2 σ H2 dx (fun _ z => Option.some.inj z) k2 (same_trans s1 s2) (R1.after A1 R2) d2 n2
  · obtain ⟨vs, H1, J, rv, qv⟩ := hh
    refine ⟨J.kIn, ?_⟩
    have ll : us.length = ps.length := rv.length.symm.trans (Fn.len _ _ _ _ qv)
    have hb' := hb s1 us J.kIn (by rw [List.append_nil]; exact ll)
    rw [List.append_nil] at hb'
    refine wpAny_call (codeAny_mono (Fn.go X.A X.stack s1 H1 ⟨us, []⟩ us vs Q _ gd hr J.env0 hb' rv qv) fun res s2 hq => ?_)
    match res, hq with
    | .error er, hq => exact tk er s2 (XE.of_call J (fun _ _ _ z => z) hq)
    | .ok (.ret u), hq => exact J.after hq
    | .ok .next, hq => exact hq.elim
    | .ok .brk, hq => exact hq.elim
    | .ok .cont, hq => exact hq.elim
/-- f(e, ..), one of whose arguments raises -/
theorem qer_arg {k : Nat} {x : Str} {ps : List Str} {sp : PSp} (G : PFn τ X.prog X.w X.K X.mg X.base k x ps sp) (gd : X.A.guards = some []) (hr : Room k X.A) (hg : Gl X x) (ha : PQAR τ X W (e :: es) r)
    (hdb : (x == ("__debug__" : Str)) = false := by decide) (he : starEach (e :: es) X.env = (false, eval e X.env) :: starEach es X.env := by rfl) (hpl : (backTo pos (starEach es X.env)).any (·.1) = false := by rfl) :
    PQR τ X W (.Call (.Name x p) (e :: es) [] pos) r := by
  obtain ⟨f, fd, F, hm, hk, hb⟩ := G.ex
  have pass : Passes CX0 X (fun _ _ _ => False) := fun _ _ _ _ _ _ _ h => h.elim
  exact pe_imp _ (Fu.pe_callG F gd hr hg hm hk hb .nil (E := fun _ _ _ => False) pass ha hdb he hpl) fun _ _ _ h => h
end
section
variable {τ : Tb} {P : Program} {w : World} {K : PySem.W.Frag} {mg : Str → Option Value} {base : Heap}
theorem fn_ofX {x : Str} {st : Stmt} {f : Addr} {fd : FuncData} {N ps : List Str} {k : Nat} {sp : PSx} (F : Fun K x x st f fd) (hm : mg x = some (.ref f)) (hk : PySem.W.keepIn K (.ref f) = true) (hb : Binds K fd ps []) (S : FnScope N ps (defScope st))
    (len : ∀ ss ε, sp ss ε → ss.length = ps.length)
    (body : ∀ (cdv : Value) (A : Around) (outer : List Env) (s : Shared) (H : Hp) (E : XK), (A.deeper (envOfC x (defScope st) s.heap.objs.size f cdv)).guards = some [] → Room k (A.deeper (envOfC x (defScope st) s.heap.objs.size f cdv)) →
      Takes (cxOf (L2.CX P w) P w K mg base N x (defScope st) f cdv A outer s H E) (fun cls d _ H' => E cls d H') →
      ∃ r, PQSsR τ (cxOf (L2.CX P w) P w K mg base N x (defScope st) f cdv A outer s H E) (fun cls d _ H' => E cls d H') (defBody st) r ∧ ∀ (ss : List Slot) (ε : Addr → PyData → List Slot → Prop), sp ss ε →
        r (ss ++ List.replicate (N.length - ss.length) .un) (fun c d ρ => ε c d (ownsOf ss ρ))) : PFnX τ P w K mg base (k + 1) x ps sp := by
  obtain ⟨oc, od, kV, doc, pm, an, cdv, ct, osl, rfl, lk, hcd⟩ := F.ex
  refine ⟨⟨f, _, ⟨fun vs H Q E h => ?_, fun A outer s H args us vs Q E gd hr e0 hbd r hsp => ?_⟩, hm, hk, hb⟩⟩
  · obtain ⟨C, ss, R, ε, h, _⟩ := h
    have := R.len
    rw [List.length_map] at this
    rw [← this]; exact len _ _ h
  · have hlen : vs.length = ps.length := by
      obtain ⟨C, ss, R, ε, h, _⟩ := id hsp
      have := R.len
      rw [List.length_map] at this
      rw [← this]; exact len _ _ h
    refine LamX.run_ofS lk hcd S hr e0 hbd r hlen fun hr' => ?_
    obtain ⟨rr, pr, hq⟩ := body cdv A outer s H E gd hr' (takes_of rfl rfl rfl rfl)
    obtain ⟨C, ss, R, ε, h, z⟩ := hsp
    have hl := R.len
    rw [List.length_map] at hl
    have R0 := rep_start (n := N.length - vs.length) R
    rw [← hl] at R0
    refine ⟨_, pr, ⟨C, H, refsAt 0 ss vs⟩, _, C, ?_, _, hq ss ε h, ?_⟩
    · unfold start
      rw [← hl]; exact R0
    · exact fun c d ρ' v C' σ' H' dx _ k' s' R' d' n' => z c d _ v C' H' dx k' s' (rep_end R R') d' n'
end
end L2.Pu

set_option Elab.async false
set_option linter.all false
set_option maxRecDepth 100000
set_option maxHeartbeats 4000000
/-! ## Exception classes with a value -/
namespace L2.Fu
open PySem PySem.Spec PyProof.Rows
open PySem.W (Frag findIn subIn typeIn keepIn hasDictIn specialIn takesIn mroIn kitOne excIn)
def veB : List Value := [.type "ValueError", .type "Exception", .type "BaseException", .type "object"]
/-- what both kinds of classes have -/
def anyB (K : Frag) (C : Addr) : Bool := (findIn K (.ref C) "__getattribute__" == some (some (.builtin "BaseException.__getattribute__"))) && ((findIn K (.ref C) "__getattr__" == some none) && ((subIn K (.ref C) (.type "BaseException") == some true) &&
  (hasDictIn K C && ((findIn K (.ref C) "__class__" == some (some (.builtin "object.__class__"))) && ((specialIn K (.builtin "object.__class__") "__get__" == some (some (.builtin "getset_descriptor.__get__"))) && ((takesIn K (.builtin "object.__class__") == some true) &&
  ((mroIn K C (.type "object") == some true) && keepIn K (.ref C))))))))
theorem anyB_ok {K : Frag} {C : Addr} (h : anyB K C = true) : ExcC K C ∧ XfC K C ∧ keepIn K (.ref C) = true := by
  unfold anyB at h
  simp only [Bool.and_eq_true, beq_iff_eq] at h
  obtain ⟨h1, h2, h3, h4, h5, h6, h7, h8, h9⟩ := h
  exact ⟨⟨h1, h2, h3, h4, h5, h6, h7, h8⟩, ⟨h1, h2, h3, h4⟩, h9⟩
def oneB (K : Frag) (C : Addr) : Bool := match K.lookup C with
  | some ⟨.type "type", _, .cls cd, sl⟩ => (match cd.mro, sl.toList with
    | .ref C' :: bm, [_, _, _, _, some (.builtin n), _] => C' == C && (n == "ValueError.__new__" && (!cd.hasDel && (cd.hasDict && PySem.HandSPX.refsVE bm)))
    | _, _ => false)
  | _ => false
theorem oneB_ok {K : Frag} {C : Addr} (h : oneB K C = true) : ∃ nm q N bs bm sn sub ab col dd k0 k1 k2 k3 k5, K.lookup C = some (excClassObj nm q C N bs bm true sn sub ab col dd k0 k1 k2 k3 k5 "ValueError.__new__") ∧ PySem.HandSPX.refsVE bm = true := by
  unfold oneB at h
  split at h
  · rename_i dd cd sl ho
    split at h
    · rename_i C' bm k0 k1 k2 k3 n k5 hm hs
      simp only [Bool.and_eq_true, beq_iff_eq, Bool.not_eq_true'] at h
      obtain ⟨rfl, rfl, hdel, hdc, hv⟩ := h
      obtain ⟨nm, bs, mro, ns, qn, hd, sn, sub, ab, col, del⟩ := cd
      dsimp only at hm hdel hdc
      subst hm hdel hdc
      obtain ⟨l⟩ := sl
      dsimp only at hs
      subst hs
      exact ⟨nm, qn, ns, bs, bm, sn, sub, ab, col, dd, k0, k1, k2, k3, k5, ho, hv⟩
    · cases h
  · cases h
/-- a class with a field -/
def fieldB (K : Frag) (C : Addr) : Bool := anyB K C && (oneB K C && ((findIn K (.ref C) "__setattr__" == some (some (.builtin "object.__setattr__"))) && ((typeIn K (.ref C) == some (.type "type")) && (findIn K (.ref C) "value" == some none))))
theorem fieldB_any {K : Frag} {C : Addr} (h : fieldB K C = true) : anyB K C = true := by
  unfold fieldB at h
  rw [Bool.and_eq_true] at h
  exact h.1
theorem fieldB_ok {K : Frag} {C : Addr} (h : fieldB K C = true) : OexC K C ∧ findIn K (.ref C) "value" = some none := by
  unfold fieldB at h
  simp only [Bool.and_eq_true, beq_iff_eq] at h
  obtain ⟨h1, h2, h3, h4, h5⟩ := h
  obtain ⟨a, b, c⟩ := anyB_ok h1
  exact ⟨⟨oneB_ok h2, h3, a.hs, h4, c⟩, h5⟩
/-! ## __init__ -/
def spI (C : Addr) : Sp := fun vs H Q _ => ∃ (a : Addr) (v : V), vs = [.ref a, v] ∧ H a = some (exo a C none) ∧ ∀ dx, H dx = none → dx ≠ a → Q .non (upd (upd H dx (exd dx [("value", v)])) a (exo a C (some dx)))
theorem ok_init {P : Program} {w : World} {K : Frag} {mg : Str → Option Value} {base : Heap} {q : Str} {st : Stmt} {f C : Addr} {fd : FuncData} (F : Fun K "__init__" q st f fd) (S : FnScope ["self", "value"] ["self", "value"] (defScope st)) (T : OexC K C) (no : findIn K (.ref C) "value" = some none)
    {p1 p2 p3 p4 : Pos} (hb : defBody st = [.Assign [.Attribute (.Name "self" p1) "value" p2] (.Name "value" p3) p4]) (sc : defScope st = { kind := .function, names := [("self", .local), ("value", .local)], isGenerator := false, isCoroutine := false, more := [] }) :
    FnOk P w K mg base CX0 1 f fd ["self", "value"] (spI C) := by
  refine F.ok S (fun vs H Q E h => ?_) (fun cdv A outer s H vs Q E hr h => ?_)
  · obtain ⟨a, v, rfl, _⟩ := h
    rfl
  · obtain ⟨a, v, rfl, ea, k⟩ := h
    rw [hb, sc]
    refine ⟨_, pss_one (ps_ost (pv 0) (pv 1)), ?_⟩
    exact ⟨_, rfl, _, rfl, a, C, rfl, T, no, .inl ⟨ea, fun dx n ne => k dx n ne⟩⟩
end L2.Fu

set_option Elab.async false
set_option linter.all false
set_option maxRecDepth 100000
set_option maxHeartbeats 4000000
/-! ## Exceptions raised, caught, looked at -/
namespace L2.Pu
open PySem PySem.Spec PyProof.Rows
/-- what is known of an exception class -/
structure ExF (K : PySem.W.Frag) (c : Addr) : Prop where
  exc : ExcC K c
  xf : XfC K c
  oex : OexC K c
  val : PySem.W.findIn K (.ref c) "value" = some none
/-- .. and of the name that finds it, and of its __init__ -/
structure ExI (P : Program) (w : World) (K : PySem.W.Frag) (mg : Str → Option Value) (base : Heap) (x : Str) (c : Addr) : Prop where
  f : ExF K c
  g : mg x = some (.ref c)
  ini : ∃ fI fd, PySem.W.findIn K (.ref c) "__init__" = some (some (.ref fI)) ∧ PySem.W.typeIn K (.ref fI) = some (.type "function") ∧ FnOk P w K mg base CX0 1 fI fd ["self", "value"] (Fu.spI c) ∧ Binds K fd ["self", "value"] []
theorem xo_nt {c dx a : Addr} : NoTb (Xo c dx a) := fun ps z => by unfold Xo at z; cases z
section
variable {X : Cx} {τ : Tb} {W : WX} {e : Expr} {q : QE} {pos pos' p : Pos} {i : Nat}
/-- raise x(e) -/
def rRaise (c : Addr) (q : QE) : QR := fun ρ ε => q ρ fun d ρ1 => ε c d ρ1
theorem qsr_raise {x : Str} {c : Addr} (tk : Takes X W) (hc : X.calm = true) (I : ExI X.prog X.w X.K X.mg X.base x c) (hr : Room 2 X.A) (hg : Gl X x) (h : PQ τ X e q)
    (hdb : (x == ("__debug__" : Str)) = false := by decide) (he : starEach [e] X.env = (false, eval e X.env) :: starEach [] X.env := by rfl) (hpl : (backTo pos (starEach [] X.env)).any (·.1) = false := by rfl) :
    PQSR τ X W (.Raise (some (.Call (.Name x p) [e] [] pos)) none pos') (rRaise c q) := by
  obtain ⟨fI, fd, iC, tI, F1, hb⟩ := I.ini
  have pass : Passes CX0 X (fun _ _ _ => False) := fun _ _ _ _ _ _ _ h => h.elim
  refine ps_imp _ (ps_raise hc tk (pmk_oex (CX := CX0) I.f.oex iC tI F1 hr hb .nil pass hg I.g (pa_cons h pa_nil he) hdb he hpl)) ?_
  rintro D σ H ⟨F, ρ, C, R, ε, k, xw⟩
  refine ⟨F, ρ, C, R, _, k, fun d ρ1 v C1 H1 k1 s1 R1 d1 => ?_⟩
  refine ⟨by show 1 ≤ 1000; decide, fun a na => ⟨a, v, rfl, upd_same, fun dx nd ne => ⟨rfl, dx, [("value", v)], upd_same, by rw [upd_ne ne, upd_same], ?_, ?_⟩⟩⟩
  · rw [upd_ne ne] at nd; exact nd
  · rw [upd_ne ne] at nd
    have eh : upd (del (upd (upd (upd H1 a (exo a c none)) dx (exd dx [("value", v)])) a (exo a c (some dx))) a) dx (.xd [("value", v)]) = upd H1 dx (.xd [("value", v)]) := by
      funext b
      by_cases hb : b = dx
      · rw [hb, upd_same, upd_same]
      · rw [upd_ne hb, upd_ne hb]
        by_cases ha : b = a
        · rw [ha, del_same, na]
        · rw [del_ne ha, upd_ne ha, upd_ne hb, upd_ne ha]
    rw [eh]
    exact xw c d ρ1 v C1 σ H1 dx (fun _ z => nomatch z) k1 s1 R1 d1 nd
/-! ### try -/
def qOrS (t u : QS) : QS := fun κ ρ => t κ ρ ∨ u κ ρ
theorem qs_or {st : Stmt} {t u : QS} (h1 : PQS τ X st t) (h2 : PQS τ X st u) : PQS τ X st (qOrS t u) := ⟨fun pins s σ H D I h => by
  obtain ⟨F, ρ, C, R, κ, k, z⟩ := h
  exact k.elim (fun k => h1.run pins s σ H D I ⟨F, ρ, C, R, κ, k, z⟩) fun k => h2.run pins s σ H D I ⟨F, ρ, C, R, κ, k, z⟩⟩
/-- nothing is raised -/
theorem qs_tryN {body : List Stmt} {t : QS} {h₀ : ExceptHandler} {hs : List ExceptHandler} (hb : PQSs τ X.nox body t) : PQS τ X (.Try body (h₀ :: hs) [] [] pos) t := ps_try_thru0 hb
/-- what is raised is caught -/
def qTryX (K : PySem.W.Frag) (cv : Value) (i : Nat) (r : QR) (qs : QS) : QS := fun κ ρ => r ρ fun c d ρ1 => PySem.W.exmOne K (.ref c) cv = some true ∧ qs { nx := fun ρ2 => κ.nx (ρ2.set i .un), rt := κ.rt, bk := fun ρ2 => κ.bk (ρ2.set i .un), ct := fun ρ2 => κ.ct (ρ2.set i .un) } (ρ1.set i (.exc c d))
theorem qs_tryX {x n : Str} {cv : Value} {body suite : List Stmt} {b₀ : Stmt} {np : Pos} {r : QR} {qs : QS} (hs : X.stack = X.env :: X.outer) (hf : X.env.frame = some X.env.locals) (hex : X.ex = []) (hN : X.N.Nodup) (hi : X.N[i]? = some n) (hln : X.env.kindOf n = some .local) (hc : Names X x cv)
    (hb : ∀ (W : WX) (pn : List (Addr × Obj)) (xe : Value → Shared → Prop), Takes (X.tr pn xe) W → PQSsR τ (X.tr pn xe) W body r) (hsu : ∀ (a : Addr) (pn : List (Addr × Obj)), PQSs τ (X.suite a pn) (b₀ :: suite) qs) :
    PQS τ X (.Try body [.ExceptHandler (some (.Name x np)) (some n) (b₀ :: suite) pos'] [] [] pos) (qTryX X.K cv i r qs) := by
  refine ps_imp _ (ps_try_trk (tb := fun W => liftSR (X.pk τ) W r) (ts := fun _ => liftS (X.pk τ) qs) hs hf hex hN hi hln hc (fun W pn xe tk _ => hb W pn xe tk) hsu) ?_
  rintro D σ H ⟨F, ρ, C, R, κ, k, z1, z2, z3, z4⟩
  refine ⟨F, ρ, C, R, _, k, fun c d ρ1 v C1 σ1 H1 dx _ ⟨hx, k1⟩ s1 R1 d1 n1 => ⟨c, dx, rfl, rfl, hx, fun a na => ?_⟩⟩
  have R2 := R1.lay (o := .xd [("value", v)]) n1
  have c1 := sub_none R1.sub n1
  have R3 := R2.lay (o := Xo c dx a) na xo_nt
  have c2 := sub_none R2.sub na
  have ne : dx ≠ a := fun z => by rw [← z, upd_same] at na; cases na
  have s3 := same_trans s1 (same_trans (same_new c1) (same_new (o := Xo c dx a) c2))
  have R4 := R3.store (i := i) (v := .ref a) (s := .exc c d) (fun _ => ⟨a, dx, v, rfl, upd_same, by rw [upd_ne ne, upd_same], d1.mono (same_trans (same_new c1) (same_new c2))⟩) fun _ _ _ _ _ _ _ z => nomatch z
  exact ⟨F, _, _, R4, _, k1, fun ρ2 C2 σ2 H2 k2 s2 R5 => z1 _ _ _ _ k2 (same_trans s3 s2) (R5.forget none), fun d2 ρ2 v2 C2 σ2 H2 k2 s2 R5 d5 => z2 _ _ _ _ _ _ k2 (same_trans s3 s2) R5 d5, fun ρ2 C2 σ2 H2 k2 s2 R5 => z3 _ _ _ _ k2 (same_trans s3 s2) (R5.forget none), fun ρ2 C2 σ2 H2 k2 s2 R5 => z4 _ _ _ _ k2 (same_trans s3 s2) (R5.forget none)⟩
/-! ### looks at an exception -/
theorem xo_inst {pins : List (Addr × Obj)} {σ : St} {H : Hp} {s : Shared} {a c dx : Addr} {fs : List (Str × V)} (I : Inv X pins σ H s) (ea : H a = some (Xo c dx a)) (ed : H dx = some (.xd fs)) : ∃ (ox od : Obj) (mA : Str → Option Value), PySem.W.InstAt s.heap a ox c (some od) ∧ s.heap.Ns1 dx mA ∧ s.heap.get? dx = some od ∧ ox.dict = some dx ∧ (∀ f, RelO (fs.lookup f) (mA f)) := by
  have xa : ObjOk X.prog X.w H s.heap a (Xo c dx a) := I.hok a _ ea
  obtain ⟨⟨oe, vs, ho, hz, hd⟩, _, _⟩ := xa
  have xd : ObjOk X.prog X.w H s.heap dx (.xd fs) := I.hok dx _ ed
  obtain ⟨mA, hns, rel⟩ := xd
  obtain ⟨od, hod, _⟩ := lookIn_ns hns
  obtain ⟨oc, odd, oda, osl⟩ := oe
  obtain ⟨h1, h2⟩ := hz
  dsimp only at h1 h2 hd
  subst h1 h2 hd
  exact ⟨_, od, mA, ⟨ho, rfl, rfl, hod⟩, hns, hod, rfl, rel⟩
/-- isinstance(x, c), isinstance(x, (c, ..)) of an exception that is tracked -/
def rIsY (K : PySem.W.Frag) : List V → Hp → VK → Prop := fun xs H Q => ∃ (a c dx : Addr) (fs : List (Str × V)) (t : V) (b : Bool), xs = [.ref a, t] ∧ H a = some (Xo c dx a) ∧ H dx = some (.xd fs) ∧ ExcC K c ∧
  ((∃ cv, ClsV t cv ∧ PySem.W.kitOne K (.ref c) cv = some b) ∨ ∃ (tp : Addr) (cs : List V) (cvs : List Value), t = .ref tp ∧ SqT K H tp cs ∧ Paired ClsV cs cvs ∧ PySem.W.kitAny K (.ref c) cvs = some b) ∧ Q (.bl b) H
theorem call_isY : CallR X (.builtin "isinstance") (rIsY X.K) := by
  intro pins s σ H xs us Q I r h
  obtain ⟨a, c, dx, fs, t, b, rfl, ea, ed, C, hk, q⟩ := h
  obtain ⟨u1, u2, rfl, r1, r2⟩ := vals2 r
  cases (show u1 = Value.ref a from r1)
  obtain ⟨ox, od, mA, J, _⟩ := xo_inst I ea ed
  obtain ⟨cd, hc, _⟩ := PySem.W.any_some C.hd
  have Z := PySem.W.kitx_exc (x := a) (ox := ox) (od := some od) (K := X.K) (C := c) (by rw [hc]; rfl) C.hg C.hk C.hs C.ha C.hn C.ht C.hm
  rcases hk with ⟨cv, k, e⟩ | ⟨tp, cs, cvs, rfl, sq, pr, e⟩
  · have e2 := k.eq r2
    subst e2
    exact PySem.W.kia_one Z I.kIn J e (fun z => nomatch z) fun tk => ⟨.bl b, H, I.tok tk, rfl, q⟩
  · cases (show u2 = Value.ref tp from r2)
    obtain ⟨its, ri, ⟨⟨cls, dd, data, sl⟩, ho, hcl, n, hd⟩, _⟩ := I.tuple sq
    simp only at hcl hd
    subst hcl hd
    have ei := ClsV.all pr ri
    subst ei
    exact PySem.W.kia_tup Z I.kIn J ho e (fun z => nomatch z) fun tk => ⟨.bl b, H, I.tok tk, rfl, q⟩
def qIsX (K : PySem.W.Frag) (i : Nat) (cv : Value) : QE := fun ρ κ => match ρ[i]? with
  | some (.exc c _) => ∃ b, ExF K c ∧ PySem.W.kitOne K (.ref c) cv = some b ∧ κ (.bool b) ρ
  | _ => False
theorem qe_isX {K : PySem.W.Frag} (hK : X.K = K) {n : Str} {et : Expr} {t : V} {cv : Value} {p1 : Pos} (hg : Gl X "isinstance") (hm : X.mg "isinstance" = none) (h : PE X (.Name n p1) (tVar i)) (ht : PE X et (tC t)) (hc : ClsV t cv)
    (he : starEach [.Name n p1, et] X.env = (false, eval (.Name n p1) X.env) :: starEach [et] X.env := by rfl) (hs2 : starEach [et] X.env = (false, eval et X.env) :: starEach [] X.env := by rfl) (hpl : (backTo pos (starEach [et] X.env)).any (·.1) = false := by rfl) :
    PQ τ X (.Call (.Name "isinstance" p) [.Name n p1, et] [] pos) (qIsX K i cv) := by
  subst hK
  refine pe_imp _ (pe_callB call_isY hg hm boot_isinstance (pa_cons h (pa_cons ht pa_nil hs2) he) (by decide) (by decide) he hpl) ?_
  rintro σ H Q ⟨F, ρ, C, R, κ, k, z⟩
  unfold qIsX at k
  split at k
  · rename_i c d e0
    obtain ⟨b, xf, kb, k⟩ := k
    obtain ⟨a, dx, v, e1, e2, e3, e4⟩ := R.slot i _ e0
    exact ⟨_, e1, a, c, dx, _, t, b, rfl, R.sub _ _ e2, R.sub _ _ e3, xf.exc, .inl ⟨cv, hc, kb⟩, z _ _ _ _ _ k (same_refl _) R (.bl b)⟩
  · exact k.elim
def qIsXs (K : PySem.W.Frag) (i : Nat) (cvs : List Value) : QE := fun ρ κ => match ρ[i]? with
  | some (.exc c _) => ∃ b, ExF K c ∧ PySem.W.kitAny K (.ref c) cvs = some b ∧ κ (.bool b) ρ
  | _ => False
/-- classes, as arguments -/
def tCl (cs : List V) : TA := fun _ H Q => Q cs H
theorem pa_cl1 {et : Expr} {es : List Expr} {t : V} {cs : List V} (h : PE X et (tC t)) (hr : PA X es (tCl cs)) (hs : starEach (et :: es) X.env = (false, eval et X.env) :: starEach es X.env := by rfl) : PA X (et :: es) (tCl (t :: cs)) := pa_imp _ (pa_cons h hr hs) fun _ _ _ h => h
theorem pa_cl0 : PA X [] (tCl []) := pa_imp _ pa_nil fun _ _ _ h => h
theorem qe_isXs {K : PySem.W.Frag} (hK : X.K = K) {n : Str} {ets : List Expr} {cs : List V} {cvs : List Value} {p1 p2 : Pos} {x1} (hg : Gl X "isinstance") (hm : X.mg "isinstance" = none) (h : PE X (.Name n p1) (tVar i)) (ht : PA X ets (tCl cs)) (hc : Paired ClsV cs cvs) (hl : cs.length ≤ 100)
    (he : starEach [.Name n p1, .Tuple ets x1 p2] X.env = (false, eval (.Name n p1) X.env) :: starEach [.Tuple ets x1 p2] X.env := by rfl) (hs2 : starEach [.Tuple ets x1 p2] X.env = (false, eval (.Tuple ets x1 p2) X.env) :: starEach [] X.env := by rfl) (hpl : (backTo pos (starEach [.Tuple ets x1 p2] X.env)).any (·.1) = false := by rfl) :
    PQ τ X (.Call (.Name "isinstance" p) [.Name n p1, .Tuple ets x1 p2] [] pos) (qIsXs K i cvs) := by
  subst hK
  refine pe_imp _ (pe_callB call_isY hg hm boot_isinstance (pa_cons h (pa_cons (pe_tupF ht) pa_nil hs2) he) (by decide) (by decide) he hpl) ?_
  rintro σ H Q ⟨F, ρ, C, R, κ, k, z⟩
  unfold qIsXs at k
  split at k
  · rename_i c d e0
    obtain ⟨b, xf, kb, k⟩ := k
    obtain ⟨a, dx, v, e1, e2, e3, e4⟩ := R.slot i _ e0
    refine ⟨_, e1, Nat.le_trans hl (by rw [sizeLine_eq]; decide), fun tp o np fo => ?_⟩
    obtain ⟨ob, rfl, hd⟩ := fo
    have sn : Same H (upd H tp (.frz ob (.tup cs))) := same_new np
    exact ⟨a, c, dx, _, .ref tp, b, rfl, sn _ _ (R.sub _ _ e2), sn _ _ (R.sub _ _ e3), xf.exc, .inr ⟨tp, cs, cvs, rfl, sqF upd_same, hc, kb⟩, z _ _ _ _ _ k (same_refl _) (R.layH np) (.bl b)⟩
  · exact k.elim
/-- e.value -/
def qXval (K : PySem.W.Frag) (i : Nat) : QE := fun ρ κ => match ρ[i]? with
  | some (.exc c d) => ExF K c ∧ κ d ρ
  | _ => False
theorem qe_xval {K : PySem.W.Frag} (hK : X.K = K) {n : Str} {p1 : Pos} (h : PE X (.Name n p1) (tVar i)) (hb : attributeBase (.Name n p1) "value" X.env (eval (.Name n p1) X.env) = eval (.Name n p1) X.env := by rfl) : PQ τ X (.Attribute (.Name n p1) "value" pos) (qXval K i) := by
  subst hK
  refine ⟨fun pins s σ H Q I hh => attr_of hb ?_⟩
  obtain ⟨F, ρ, C, R, κ, k, z⟩ := hh
  unfold qXval at k
  split at k
  · rename_i c d e0
    obtain ⟨xf, k⟩ := k
    obtain ⟨a, dx, v, e1, e2, e3, e4⟩ := R.slot i _ e0
    refine thn (h.run pins s σ H (fun x H1 => x = .ref a ∧ H1 = H) I ⟨_, e1, rfl, rfl⟩) fun u s1 hh => ?_
    obtain ⟨x, H1, J, rx, ex, eH⟩ := hh
    subst ex
    rw [eH] at J
    cases rx
    obtain ⟨ox, od, mA, W, hns, hod, hdx, rel⟩ := xo_inst J (R.sub _ _ e2) (R.sub _ _ e3)
    obtain ⟨od', hod', hl⟩ := lookIn_ns hns
    rw [hod] at hod'; cases hod'
    obtain ⟨y, hy, ry⟩ := RelO.some_of (v := v) (o := mA "value") (by have := rel "value"; simpa using this)
    exact HandSPX.exc_get J.kIn W xf.xf.ga xf.xf.gg xf.xf.exC (PySem.W.findObj_own xf.xf.hdC xf.val rfl (by rw [hl, hy])) (handed_of ry) ⟨v, H, J.tok _, ry, z _ _ _ _ _ k (same_refl _) R e4⟩
  · exact k.elim
/-- e is None, e an exception or data -/
def qIsNX (i : Nat) : QE := fun ρ κ => match ρ[i]? with
  | some (.exc _ _) => κ (.bool false) ρ
  | some (.val .none) => κ (.bool true) ρ
  | _ => False
theorem qe_isNX {n : Str} {p1 p2 : Pos} {j} (h : PE X (.Name n p1) (tVar i)) : PQ τ X (.Compare (.Name n p1) [.Is] [.Constant .none j p2] pos) (qIsNX i) := by
  refine pe_imp _ (pe_cmpR op_isN h (pe_non) (nomark _)) ?_
  rintro σ H Q ⟨F, ρ, C, R, κ, k, z⟩
  unfold qIsNX at k
  split at k
  · rename_i c d e0
    obtain ⟨a, dx, v, e1, e2, e3, e4⟩ := R.slot i _ e0
    exact ⟨_, e1, rfl, z _ _ _ _ _ k (same_refl _) R (.bl _)⟩
  · rename_i e0
    obtain ⟨v, e1, d1⟩ := R.val e0
    cases d1
    exact ⟨_, e1, rfl, z _ _ _ _ _ k (same_refl _) R (.bl _)⟩
  · exact k.elim
theorem qt_isNX {n : Str} {p1 p2 : Pos} {j} (h : PE X (.Name n p1) (tVar i)) : PQT τ X (.Compare (.Name n p1) [.Is] [.Constant .none j p2] pos) (qB (qIsNX i)) := by
  refine pt_imp _ (pt_cmpR op_isN h (pe_non) (nomark _)) (test_imp ?_)
  rintro σ H Q ⟨F, ρ, C, R, κ, k, z⟩
  unfold qIsNX at k
  split at k
  · rename_i c d e0
    obtain ⟨a, dx, v, e1, e2, e3, e4⟩ := R.slot i _ e0
    exact ⟨_, e1, rfl, z _ _ _ _ _ k (same_refl _) R (.bl _)⟩
  · rename_i e0
    obtain ⟨v, e1, d1⟩ := R.val e0
    cases d1
    exact ⟨_, e1, rfl, z _ _ _ _ _ k (same_refl _) R (.bl _)⟩
  · exact k.elim
/-- a name takes what another one holds: an exception -/
def qCpyX (i j : Nat) : QS := fun κ ρ => match ρ[j]? with
  | some (.exc c d) => κ.nx (ρ.set i (.exc c d))
  | _ => False
theorem qs_cpyX {j : Nat} {x n : Str} {p1 p2 : Pos} (hN : X.N.Nodup) (hi : X.N[i]? = some x) (hx : Loc X.env.scope x) (h : PE X (.Name n p1) (tVar j)) (hs : swapsWith (.Name n p1) (some (.Name x p2)) pos.line X.env = pure false := by rfl) (hf : X.fn x = true ∨ X.env.scope.names.lookup x = some .local := by first | exact .inl rfl | exact .inr rfl | assumption) :
    PQS τ X (.Assign [.Name x p2] (.Name n p1) pos) (qCpyX i j) := by
  refine ps_imp _ (ps_set hN hi hx h hs hf) ?_
  rintro D σ H ⟨F, ρ, C, R, κ, k, z, _⟩
  unfold qCpyX at k
  split at k
  · rename_i c d e0
    obtain ⟨a, dx, v, e1, e2, e3, e4⟩ := R.slot j _ e0
    exact ⟨_, e1, z _ _ _ _ k (same_refl _) (R.store (fun _ => ⟨a, dx, v, rfl, e2, e3, e4⟩) fun _ _ _ _ _ _ _ z => nomatch z)⟩
  · exact k.elim
end
end L2.Pu

set_option Elab.async false
set_option linter.all false
set_option maxRecDepth 100000
set_option maxHeartbeats 4000000
/-! ## A lambda without parameters, handed to a def that calls it -/
namespace L2.Pu
open PySem PySem.Spec PyProof.Rows
/-- what a name captures: data, or nothing that is told -/
def valOf : Slot → Option PyData
  | .val d => some d
  | _ => none
def slOf : Option PyData → Slot
  | some d => .val d
  | none => .un
/-- what a lambda sees of the state -/
def valsR (ρ : Ro) : Ro := ρ.map fun s => slOf (valOf s)
section
variable {T : PK} {F : Fm} {ρ : Ro} {C : Hp} {σ : St} {H : Hp}
/-- what stands, without the names -/
theorem Rep.bare (R : Rep T F ρ C σ H) : Rep T F [] C [] H := ⟨R.c0, R.sub, R.keep, R.tbl, R.htb, R.ctab, R.tabs, R.new, R.refd, R.sys, rfl, fun i s h => by simp at h, fun i j p r r' o o' _ h => by simp at h⟩
/-- behind something that changed nothing that was there -/
theorem Rep.behind {C' H' : Hp} (R : Rep T F ρ C σ H) (Rc : Rep T ⟨C, H, []⟩ [] C' [] H') : Rep T F ρ C' σ H' := by
  have := R.after (as := []) (ss := []) (ss' := []) (vs := []) .nil Rc
  exact this
/-- names that hold data alone, seen from a new frame -/
theorem Rep.vals (R : Rep T F ρ C σ H) {σc : St} {vs : List (Option PyData)} (hl : σc.length = vs.length) (hv : ∀ (i : Nat) (d : PyData), vs[i]? = some (some d) → ∃ x, σc[i]? = some (some x) ∧ Da T.w C x d) : Rep T ⟨C, H, []⟩ (vs.map slOf) C σc H := by
  refine ⟨same_refl _, R.sub, fun b o k _ _ => k, R.htb, R.htb, R.ctab, R.tabs, fun b o k k0 => ?_, (fun q hq => by cases hq), R.sys, by rw [List.length_map, hl], fun i s hs => ?_, fun i j p r r' o o' _ hi _ _ _ => ?_⟩
  · have k0 : C b = none := k0
    rw [k] at k0; cases k0
  · rw [List.getElem?_map] at hs
    cases e : vs[i]? with
    | none => rw [e] at hs; cases hs
    | some x =>
      rw [e] at hs
      cases x with
      | none => cases hs; trivial
      | some d => cases hs; exact hv i d e
  · rw [List.getElem?_map] at hi
    cases e : vs[i]? with
    | none => rw [e] at hi; cases hi
    | some x =>
      rw [e] at hi
      cases x <;> cases hi
end
section
variable {X : Cx} {τ : Tb} {pins : List (Addr × Obj)} {σ : St} {H : Hp} {s : Shared}
/-- the lambda's object is new -/
theorem fresh_fr (I : Inv X pins σ H s) {f : Addr} (hf : s.heap.objs.size ≤ f) : f ∉ frs X.stack := fun z => by
  rcases List.mem_cons.mp (I.stkSub _ z) with e | e
  · have h1 := I.lt
    rw [← e] at h1
    exact absurd hf (Nat.not_le.mpr h1)
  · exact I.nofs hf e
theorem lam_new2 {c P : Addr} {params : Arguments} {body : Expr} {scope : Scope} {pos : Pos} {E : Value → Shared → Prop} {Q : Value → Shared → Prop} (I : Inv X pins σ H s) (O : OwnTab τ X c P) (hT : LamX.Tabs τ H) (hdef : defaultsOf params X.env = ([], [])) (hfree : ∀ y ∈ scope.names, y.2 = .free → ∃ c, X.env.cells.lookup y.1 = some c)
    (go : ∀ (f c' : Addr) (pm ctv : Value) (H1 : Hp) (s' : Shared), Inv X pins σ H1 s' → LamAt H H1 P c' (X.env.qual ++ "<lambda>") → LamX.Tabs τ H1 → H1 c' = some (LamX.CodeO c' (X.env.qual ++ "<lambda>")) →
      s'.heap.get? f = some (PySem.W.kla_obj "<lambda>" (X.env.qual ++ "<lambda>") params body scope (cloFrom X.env.cells scope.names []) pm c' ctv) → H1 f = none → f ∉ frs X.stack → Q (.ref f) s') :
    wpAny (model X.prog X.w) X.A (eval (.Lambda params body scope pos) X.env) Q E s := by
  obtain ⟨ps, tP, tOk, tCode⟩ := hT _ O.mem
  have oP : s.heap.get? P = some { cls := .none, data := .fields ps } := I.hok P _ tP
  have gl := I.mod.glob.keeps I.bk
  have bl : s.heap.BuiltinsAt X.mg P := O.tab.bm.keeps I.bk
  have hd := O.tab.code.keeps I.bk
  apply PySem.W.kla_eval hdef
  rcases found : codeAmong pos ps.toList with _ | cv
  · apply PySem.W.kla_makeFunction (mg := X.mg) (c := c) (P := P) (ps := ps) (closure_ok hfree) I.ok.glob gl O.code hd oP tOk found O.tab.gP bl
    intro c' ctv h' tk ext lo hi rec tab
    obtain ⟨c2, oc, vs, t, ec, oc1, oc2, oc3⟩ := rec
    cases ec
    have nC : H c' = none := I.hok.fresh lo
    have nPC : P ≠ c' := ne_of_none tP nC
    have listed : (ps ++ #[rawInt pos.line, rawInt pos.col, Value.ref c']).toList = ps.toList ++ [rawInt pos.line, rawInt pos.col, .ref c'] := by simp
    have J := LamX.inv_table (t' := tk) (more := #[rawInt pos.line, rawInt pos.col, .ref c']) (h' := h'.push (PySem.W.kla_obj "<lambda>" (X.env.qual ++ "<lambda>") params body scope (cloFrom X.env.cells scope.names []) ((X.mg "__name__").getD .none) c' ctv)) I tP
      (fun b o hb e => Heap.get?_push_of_some _ (ext b o hb e)) (Heap.get?_push_of_some _ tab) lo ⟨oc, vs, t, Heap.get?_push_of_some _ oc1, oc2, oc3⟩
    have stay : ∀ b q, H b = some (LamX.CodeO b q) → upd (upd H P (.tbl (ps ++ #[rawInt pos.line, rawInt pos.col, .ref c']))) c' (LamX.CodeO c' (X.env.qual ++ "<lambda>")) b = some (LamX.CodeO b q) := fun b q e => by
      have n1 : b ≠ P := fun z => by rw [z, tP] at e; exact LamX.codeO_ne ps (Option.some.inj e).symm
      rw [upd_ne (ne_of_none e nC), upd_ne n1]; exact e
    have szP : s.heap.objs.size ≤ h'.objs.size := by omega
    have nf : upd (upd H P (.tbl (ps ++ #[rawInt pos.line, rawInt pos.col, .ref c']))) c' (LamX.CodeO c' (X.env.qual ++ "<lambda>")) h'.objs.size = none := by
      rw [upd_ne (Nat.ne_of_gt hi), upd_ne (Nat.ne_of_gt (Nat.lt_of_lt_of_le (Heap.lt_size oP) szP))]
      exact I.hok.fresh szP
    refine go h'.objs.size c' _ ctv _ _ J (.inr ⟨ps, _, tP, nC, rfl⟩) (fun x hx => ?_) upd_same (Heap.get?_push_size _ rfl) nf (fresh_fr I szP)
    obtain ⟨qs, xP, xOk, xCode⟩ := hT x hx
    by_cases hp : x.1 = P
    · rw [hp, tP] at xP; cases xP
      refine ⟨_, by rw [hp, upd_ne nPC, upd_same], by rw [listed]; exact PySem.TriplesOk_snoc _ _ _ _ tOk, fun p' cv hcv => ?_⟩
      rw [listed] at hcv
      rcases LamX.among_app _ tOk hcv with z | z
      · obtain ⟨d, z1, z2⟩ := xCode p' cv z
        exact ⟨d, z1, stay _ _ z2⟩
      · exact ⟨c', z, by rw [O.uni x hx hp]; exact upd_same⟩
    · refine ⟨qs, by rw [upd_ne (ne_of_none xP nC), upd_ne hp]; exact xP, xOk, fun p' cv hcv => ?_⟩
      obtain ⟨d, z1, z2⟩ := xCode p' cv hcv
      exact ⟨d, z1, stay _ _ z2⟩
  · obtain ⟨c', ec, hc⟩ := tCode pos cv found
    subst ec
    apply PySem.W.kla_makeFunctionHit (mg := X.mg) (c := c) (P := P) (ps := ps) (closure_ok hfree) I.ok.glob gl O.code hd oP tOk found bl
    intro ctv h' tk ext lo
    exact go h'.objs.size c' _ ctv H _ (I.kept fun b o e => Heap.get?_push_of_some _ (ext b o e)) (.inl rfl) hT hc (Heap.get?_push_size _ rfl) (I.hok.fresh lo) (fresh_fr I lo)
/-- the def that got the lambda calls it -/
theorem pe_actG {Ng : List Str} {qg : Str} {sg : Scope} {g f c' : Addr} {cdg pm ctv : Value} {params : Arguments} {body : Expr} {scope : Scope} {k i : Nat} {a : Str} {pn : List (Addr × Obj)} {xe : Value → Shared → Prop} {W : WX} {tb : XK → TE} {p1 p2 : Pos}
    (I : Inv X pins σ H s) (L : LamX.LamS X.env.scope scope) (hf : s.heap.get? f = some (PySem.W.kla_obj "<lambda>" (X.env.qual ++ "<lambda>") params body scope (cloFrom X.env.cells scope.names []) pm c' ctv)) (hfn : H f = none) (hfr : f ∉ frs X.stack)
    (hbind : bindArgs (PySem.W.kla_fn "<lambda>" (X.env.qual ++ "<lambda>") params body scope (cloFrom X.env.cells scope.names []) pm (.ref c') ctv) ⟨[], []⟩ = pure [])
    (tk : Takes ((cxOf CX0 X.prog X.w X.K X.mg X.base Ng qg sg g cdg X.A X.stack s H E0).tr pn xe) W) (hr : Room (k + 1) (X.A.deeper (envOfC qg sg s.heap.objs.size g cdg)))
    (hbody : ∀ (outer : List Env) (s2 : Shared) (H2 : Hp) (E : XK), Room k ((X.A.deeper (envOfC qg sg s.heap.objs.size g cdg)).deeper (LamX.lamEnv X scope s2.heap.objs.size f c')) → PE (LamX.lamCx X (X.A.deeper (envOfC qg sg s.heap.objs.size g cdg)) outer s2 H2 E scope f c') body (tb E))
    (hN : Ng[i]? = some a) (hv : Vis sg a) (hd : (a == ("__debug__" : Str)) = false := by decide) (hcd : (a == ("__classdict__" : Str)) = false := by decide) :
    PE ((cxOf CX0 X.prog X.w X.K X.mg X.base Ng qg sg g cdg X.A X.stack s H E0).tr pn xe) (.Call (.Name a p1) [] [] p2)
      (fun σZ HZ Q => σZ[i]? = some (some (.ref f)) ∧ HZ c' = some (LamX.CodeO c' (X.env.qual ++ "<lambda>")) ∧ tb (fun cls d H' => W cls d σZ H') σ HZ Q) := by
  refine ⟨fun pZ sZ σZ HZ Q IZ h => ?_⟩
  obtain ⟨hs, hc, ht⟩ := h
  refine wpAny_Call_Name_kw (thn ((pe_var (pos := p1) (i := i) hN hv hd hcd).run pZ sZ σZ HZ (fun v H1 => v = .ref f ∧ H1 = HZ) IZ ⟨.ref f, hs, rfl, rfl⟩) fun u s1 hh => ?_)
  obtain ⟨v, H1, I1, r1, rfl, eH⟩ := hh
  rw [eH] at I1
  cases (show u = Value.ref f from r1)
  have of1 := I1.base.keep f _ hf hfn hfr (fun z => by cases z)
  refine PySem.W.callWith_F0 ⟨_, _, _, _, of1⟩ ?_
  have un : Un (frs X.stack) [] H HZ s.heap s1.heap := I1.base
  obtain ⟨⟨oc, vs, t, hoc, hdc, hvc⟩, _, _⟩ := I1.hok c' _ hc
  have rc : codeAny (model X.prog X.w) (X.A.deeper (envOfC qg sg s.heap.objs.size g cdg)) (.call (.ref f) ⟨[], []⟩) (CR (L2.CX X.prog X.w) (envOfC qg sg s.heap.objs.size g cdg :: X.stack) X.prog X.w HZ s1 Q (fun cls d H' => W cls d σZ H')) s1 := by
    refine PySem.W.kla_callFunE hr.depth of1 rfl L.co L.gen rfl ⟨c', oc, vs, t, rfl, hoc, hdc, hvc⟩ ?_
    rw [hbind]
    refine wpAny_pure (wpAny_newFunctionEnv (fun y hy => (L.own y hy).2) (fun y hy => by cases hy) (fun h₁ hns hsb => ⟨I1.nolimit.fresh _ hsb, ?_⟩) L.kind)
    have kp : ∀ b o, s1.heap.get? b = some o → h₁.get? b = some o := fun b o e => hsb.extBut b o (Nat.ne_of_lt (Heap.lt_size e)) (Heap.get?_push_of_some _ e)
    have J := LamX.lam_start2 (E := fun cls d H' => W cls d σZ H') (f := f) (c' := c') (tk := s1.toks + ([] : List (Str × Value)).length) I L I1.env0 hr.hd un hns kp
    refine PySem.W.kla_codeExpr (wpAny_mono ((hbody _ s1 HZ _ (hr.deeper _)).run [] _ _ HZ Q J ht) (fun v s' hq => ?_) fun e s' hq => hq)
    obtain ⟨x, H', J', rv, q⟩ := hq
    exact ⟨x, H', J'.os, J'.bare, J'.base, J'.hok, rv, q⟩
  refine wpAny_call (codeAny_mono rc fun r s' hq => ?_)
  match r, hq with
  | .error e, hq => exact tk e s' (XE.of_call I1 (fun _ _ _ z => z) hq)
  | .ok (.ret u), hq => exact I1.after hq
  | .ok .next, hq => exact hq.elim
  | .ok .brk, hq => exact hq.elim
  | .ok .cont, hq => exact hq.elim
end
/-! ### in pure states -/
/-- the lambda at slot i is called: what it answers -/
def qAct (i : Nat) (f c : Addr) (q : Str) (σc : St) (Φ : Ro → (PyData → Prop) → Prop) : QE := fun ρ κ => match ρ[i]? with
  | some (.fnc f' c' q' σ' vs) => f' = f ∧ c' = c ∧ q' = q ∧ σ' = σc ∧ ∃ K : PyData → Prop, Φ (vs.map slOf) K ∧ ∀ d, K d → κ d ρ
  | _ => False
/-- .. what it raises -/
def rAct (i : Nat) (f c : Addr) (q : Str) (σc : St) (Ψ : Ro → (Addr → PyData → Prop) → Prop) : QR := fun ρ ε => match ρ[i]? with
  | some (.fnc f' c' q' σ' vs) => f' = f ∧ c' = c ∧ q' = q ∧ σ' = σc ∧ ∃ E : Addr → PyData → Prop, Ψ (vs.map slOf) E ∧ ∀ e d, E e d → ε e d ρ
  | _ => False
/-- a lambda's two ways, as the def that calls it knows them: in its context Z, the name a, slot i -/
structure ActOk (τ : Tb) (Z : Cx) (a : Str) (i : Nat) (f c : Addr) (q : Str) (σc : St) (Φ : Ro → (PyData → Prop) → Prop) (Ψ : Ro → (Addr → PyData → Prop) → Prop) : Prop where
  nor : ∀ {pn : List (Addr × Obj)} {xe : Value → Shared → Prop} {p1 p2 : Pos}, PQ τ (Z.tr pn xe) (.Call (.Name a p1) [] [] p2) (qAct i f c q σc Φ)
  exc : ∀ {W : WX} {pn : List (Addr × Obj)} {xe : Value → Shared → Prop} {p1 p2 : Pos}, Takes (Z.tr pn xe) W → PQR τ (Z.tr pn xe) W (.Call (.Name a p1) [] [] p2) (rAct i f c q σc Ψ)
section
variable {X : Cx} {τ : Tb} {pins : List (Addr × Obj)} {σ : St} {H : Hp} {s : Shared}
theorem act_ok {Ng : List Str} {qg : Str} {sg : Scope} {g f c' : Addr} {cdg pm ctv : Value} {params : Arguments} {body : Expr} {scope : Scope} {k i : Nat} {a : Str} {qn : QE} {qr : QR}
    (I : Inv X pins σ H s) (L : LamX.LamS X.env.scope scope) (hf : s.heap.get? f = some (PySem.W.kla_obj "<lambda>" (X.env.qual ++ "<lambda>") params body scope (cloFrom X.env.cells scope.names []) pm c' ctv)) (hfn : H f = none) (hfr : f ∉ frs X.stack)
    (hbind : bindArgs (PySem.W.kla_fn "<lambda>" (X.env.qual ++ "<lambda>") params body scope (cloFrom X.env.cells scope.names []) pm (.ref c') ctv) ⟨[], []⟩ = pure []) (hr : Room (k + 1) (X.A.deeper (envOfC qg sg s.heap.objs.size g cdg)))
    (hbN : ∀ (outer : List Env) (s2 : Shared) (H2 : Hp) (E : XK), Room k ((X.A.deeper (envOfC qg sg s.heap.objs.size g cdg)).deeper (LamX.lamEnv X scope s2.heap.objs.size f c')) → PQ τ (LamX.lamCx X (X.A.deeper (envOfC qg sg s.heap.objs.size g cdg)) outer s2 H2 E scope f c') body qn)
    (hbR : ∀ (outer : List Env) (s2 : Shared) (H2 : Hp) (E : XK), Room k ((X.A.deeper (envOfC qg sg s.heap.objs.size g cdg)).deeper (LamX.lamEnv X scope s2.heap.objs.size f c')) → PQR τ (LamX.lamCx X (X.A.deeper (envOfC qg sg s.heap.objs.size g cdg)) outer s2 H2 E scope f c') (fun cls d _ H' => E cls d H') body qr)
    (hN : Ng[i]? = some a) (hv : Vis sg a) (hd : (a == ("__debug__" : Str)) = false) (hcd : (a == ("__classdict__" : Str)) = false) :
    ActOk τ (cxOf CX0 X.prog X.w X.K X.mg X.base Ng qg sg g cdg X.A X.stack s H E0) a i f c' (X.env.qual ++ "<lambda>") σ (fun ρv K => qn ρv fun d _ => K d) (fun ρv E => qr ρv fun c d _ => E c d) := by
  constructor
  · intro pn xe p1 p2
    refine pe_imp _ (pe_actG (W := fun _ _ _ _ => False) (tb := fun _ => fun σ' H' Q => ∃ (C : Hp) (vs : List (Option PyData)), Rep (X.pk τ) ⟨C, H', []⟩ (vs.map slOf) C σ' H' ∧ ∃ K : PyData → Prop, qn (vs.map slOf) (fun d _ => K d) ∧ ∀ d v C' H2, K d → Same C C' → Rep (X.pk τ) ⟨C, H', []⟩ [] C' [] H2 → Da X.w C' v d → Q v H2)
      I L hf hfn hfr hbind (fun _ _ x => by obtain ⟨_, _, _, _, _, _, _, _, _, _, _, _, _, _, _, _, z⟩ := x; exact z.elim) hr (fun outer s2 H2 E hr2 => pe_imp _ (hbN outer s2 H2 E hr2) ?_) hN hv hd hcd) ?_
    · rintro σ' H' Q ⟨C, vs, R, K, k, z⟩
      exact ⟨_, _, C, R, _, k, fun d ρ' v C' H2 kd s' R' d' => z d v C' H2 kd s' R'.bare d'⟩
    · rintro σZ HZ Q ⟨F, ρ, C, R, κ, k, z⟩
      unfold qAct at k
      split at k
      · rename_i e0
        obtain ⟨rfl, rfl, rfl, rfl, K, k, hk⟩ := k
        obtain ⟨e1, e2, e3, e4⟩ := R.slot i _ e0
        exact ⟨e1, R.sub _ _ e2, C, _, R.vals e3 e4, K, k, fun d v C' H2 kd s' R' d' => z d ρ v C' H2 (hk d kd) s' (R.behind R') d'⟩
      · exact k.elim
  · intro W pn xe p1 p2 tk
    refine pe_imp _ (pe_actG (W := W) (tb := fun E => fun σ' H' _ => ∃ (C : Hp) (vs : List (Option PyData)), Rep (X.pk τ) ⟨C, H', []⟩ (vs.map slOf) C σ' H' ∧ ∃ ε : Addr → PyData → Prop, qr (vs.map slOf) (fun c d _ => ε c d) ∧ ∀ c d v C' H2 dx, ε c d → Same C C' → Rep (X.pk τ) ⟨C, H', []⟩ [] C' [] H2 → Da X.w C' v d → H2 dx = none → E (.ref c) (some dx) (upd H2 dx (.xd [("value", v)])))
      I L hf hfn hfr hbind tk hr (fun outer s2 H2 E hr2 => pe_imp _ (hbR outer s2 H2 E hr2) ?_) hN hv hd hcd) ?_
    · rintro σ' H' Q ⟨C, vs, R, ε, k, z⟩
      exact ⟨_, _, C, R, _, k, fun c d ρ' v C' σ2 H2 dx _ kd s' R' d' n' => z c d v C' H2 dx kd s' R'.bare d' n'⟩
    · rintro σZ HZ Q ⟨F, ρ, C, R, ε, k, xw⟩
      unfold rAct at k
      split at k
      · rename_i e0
        obtain ⟨rfl, rfl, rfl, rfl, E, k, hk⟩ := k
        obtain ⟨e1, e2, e3, e4⟩ := R.slot i _ e0
        exact ⟨e1, R.sub _ _ e2, C, _, R.vals e3 e4, E, k, fun c d v C' H2 dx kd s' R' d' n' => xw c d ρ v C' σZ H2 dx (fun _ z => Option.some.inj z) (hk c d kd) s' (R.behind R') d' n'⟩
      · exact k.elim
end
end L2.Pu

set_option Elab.async false
set_option linter.all false
set_option maxRecDepth 100000
set_option maxHeartbeats 4000000
/-! ## The def that calls what it got, and its calls -/
namespace L2.Pu
open PySem PySem.Spec PyProof.Rows
/-- what such a def makes of the lambda's two ways -/
abbrev SpL := ((PyData → Prop) → Prop) → ((Addr → PyData → Prop) → Prop) → (PyData → Prop) → Prop
structure PFnL (τ : Tb) (P : Program) (w : World) (K : PySem.W.Frag) (mg : Str → Option Value) (base : Heap) (x : Str) (sp : SpL) : Prop where
  ex : ∃ (g : Addr) (fd : FuncData) (st : Stmt) (N : List Str) (a : Str), Fun K x x st g fd ∧ mg x = some (.ref g) ∧ PySem.W.keepIn K (.ref g) = true ∧ Binds K fd [a] [] ∧ FnScope N [a] (defScope st) ∧ N[0]? = some a ∧ Vis (defScope st) a ∧ (a == ("__debug__" : Str)) = false ∧ (a == ("__classdict__" : Str)) = false ∧
    ∀ (cdv : Value) (A : Around) (outer : List Env) (s : Shared) (H : Hp) (f c : Addr) (q : Str) (σc : St) (Φ : Ro → (PyData → Prop) → Prop) (Ψ : Ro → (Addr → PyData → Prop) → Prop),
      ActOk τ (cxOf CX0 P w K mg base N x (defScope st) g cdv A outer s H E0) a 0 f c q σc Φ Ψ →
      ∃ qb, PQSs τ (cxOf CX0 P w K mg base N x (defScope st) g cdv A outer s H E0).nox (defBody st) qb ∧ ∀ (vs : List (Option PyData)) (κ : PyData → Prop), sp (Φ (vs.map slOf)) (Ψ (vs.map slOf)) κ →
        qb { nx := fun _ => κ .none, rt := fun d _ => κ d } (.fnc f c q σc vs :: List.replicate (N.length - 1) .un)
/-- data stand where all but one object of code stands -/
theorem Da.off {w : World} {C C' : Hp} (s : ∀ b o, C b = some o → (∀ c q, o ≠ LamX.CodeO c q) → C' b = some o) {v : V} {d : PyData} (h : Da w C v d) : Da w C' v d := by
  have fz : ∀ {o : Obj} {u : HO} (c : Addr) (q : Str), HO.frz o u ≠ LamX.CodeO c q := fun c q z => by unfold LamX.CodeO at z; cases z
  have ls : ∀ {xs : List V} (c : Addr) (q : Str), HO.lst xs ≠ LamX.CodeO c q := fun c q z => by unfold LamX.CodeO at z; cases z
  exact Da.rec (motive_1 := fun v d _ => Da w C' v d) (motive_2 := fun vs ds _ => DaAll w C' vs ds) .non .bl .int .str (fun e n _ q => .lst (s _ _ e ls) n q) (fun e n _ q => .tup (s _ _ e fz) n q) (fun e k _ q => .dic (s _ _ e fz) k q) (fun e t ks k ne _ q => .dicT (s _ _ e fz) t (fun z hz => let ⟨ob, h1, h2⟩ := ks z hz; ⟨ob, s _ _ h1 fz, h2⟩) k ne q) .nil (fun _ _ a b => .cons a b) h
theorem code_nt {c : Addr} {q : Str} : NoTb (LamX.CodeO c q) := fun ps => LamX.codeO_ne ps
section
variable {X : Cx} {τ : Tb}
def qLam (sp : SpL) (qn : QE) (qr : QR) : QE := fun ρ κ => sp (fun K => qn (valsR ρ) fun d _ => K d) (fun E => qr (valsR ρ) fun c d _ => E c d) (fun d => κ d ρ)
theorem qe_lam {x : Str} {sp : SpL} {c P : Addr} {params : Arguments} {body : Expr} {scope : Scope} {qn : QE} {qr : QR} {k : Nat} {p lpos pos : Pos} (G : PFnL τ X.prog X.w X.K X.mg X.base x sp) (gd : X.A.guards = some []) (hr : Room (k + 2) X.A) (hg : Gl X x) (O : OwnTab τ X c P) (L : LamX.LamS X.env.scope scope)
    (hdef : defaultsOf params X.env = ([], [])) (hbind : ∀ (q : Str) (cl : List (Str × Addr)) (pm cv ctv : Value), bindArgs (PySem.W.kla_fn "<lambda>" q params body scope cl pm cv ctv) ⟨[], []⟩ = pure [])
    (hbN : ∀ (A : Around) (outer : List Env) (s2 : Shared) (H2 : Hp) (E : XK) (f c' : Addr), (A.deeper (LamX.lamEnv X scope s2.heap.objs.size f c')).guards = some [] → Room k (A.deeper (LamX.lamEnv X scope s2.heap.objs.size f c')) → PQ τ (LamX.lamCx X A outer s2 H2 E scope f c') body qn)
    (hbR : ∀ (A : Around) (outer : List Env) (s2 : Shared) (H2 : Hp) (E : XK) (f c' : Addr), (A.deeper (LamX.lamEnv X scope s2.heap.objs.size f c')).guards = some [] → Room k (A.deeper (LamX.lamEnv X scope s2.heap.objs.size f c')) → Takes (LamX.lamCx X A outer s2 H2 E scope f c') (fun cls d _ H' => E cls d H') → PQR τ (LamX.lamCx X A outer s2 H2 E scope f c') (fun cls d _ H' => E cls d H') body qr)
    (hdb : (x == ("__debug__" : Str)) = false := by decide) : PQ τ X (.Call (.Name x p) [.Lambda params body scope lpos] [] pos) (qLam sp qn qr) := by
  obtain ⟨g, fd, st, N, a, Fg, hm, hk, hb, S, hN, hv, hda, hca, bd⟩ := G.ex
  obtain ⟨oc, od, kV, doc, pmg, an, cdv, ct, osl, rfl, lk, hcd⟩ := Fg.ex
  refine ⟨fun pins s σ H Q I h => ?_⟩
  obtain ⟨F, ρ, C, R, κ, kq, z⟩ := h
  refine wpAny_Call_Name_kw (ld_glob I hg hm ?_ hdb)
  refine PySem.W.callWith_K (h₀ := X.base) I.ok.mod.kin hk ?_ (by rfl) (by rfl)
  refine Calls.spliced_cons (lam_new2 I O R.tabs hdef (L.has I.ok) fun f c' pm ctv H1 s' I1 at1 T1 hco hf hfn hfr => Calls.spliced_nil ⟨I1.kIn, ?_⟩)
  have R1 := R.lam at1 T1
  have rc : codeAny (model X.prog X.w) X.A (.call (.ref g) ⟨[.ref f], []⟩) (CR CX0 X.stack X.prog X.w H1 s' Q E0) s' := by
    refine LamX.run_ofS (N := N) (ps := [a]) (us := [.ref f]) (vs := [.ref f]) lk hcd S hr I1.env0 (hb s' [.ref f] I1.kIn rfl) (.cons rfl .nil) rfl fun hr' => ?_
    have act := act_ok (τ := τ) (Ng := N) (qg := x) (sg := defScope st) (g := g) (cdg := cdv) (i := 0) (a := a) (k := k) I1 L hf hfn hfr (hbind _ _ _ _ _) hr' (fun outer s2 H2 E r2 => hbN _ outer s2 H2 E f c' gd r2) (fun outer s2 H2 E r2 => hbR _ outer s2 H2 E f c' gd r2 (takes_of rfl rfl rfl rfl)) hN hv hda hca
    obtain ⟨qb, pq, hq⟩ := bd cdv X.A X.stack s' H1 f c' _ σ _ _ act
    refine ⟨_, pq.nox, ?_⟩
    have cc : ∀ o, C c' = some o → o = LamX.CodeO c' (X.env.qual ++ "<lambda>") := fun o e => by
      have := R1.sub _ _ e
      rw [hco] at this
      exact (Option.some.inj this).symm
    have s0 : Same C (upd C c' (LamX.CodeO c' (X.env.qual ++ "<lambda>"))) := fun b o e => by
      by_cases hb : b = c'
      · subst hb; rw [upd_same, cc o e]
      · rw [upd_ne hb]; exact e
    have sub0 : Same (upd C c' (LamX.CodeO c' (X.env.qual ++ "<lambda>"))) H1 := same_in R1.sub hco
    have lN : N.length - 1 + 1 = N.length := by
      have := (List.getElem?_eq_some_iff.mp hN).1
      omega
    have hvs : ∀ (i : Nat) (d : PyData), (ρ.map valOf)[i]? = some (some d) → ∃ y, σ[i]? = some (some y) ∧ Da X.w (upd C c' (LamX.CodeO c' (X.env.qual ++ "<lambda>"))) y d := fun i d e => by
      rw [List.getElem?_map] at e
      cases e2 : ρ[i]? with
      | none => rw [e2] at e; cases e
      | some sl =>
        rw [e2] at e
        have e : valOf sl = some d := by simpa using e
        cases sl with
        | val d' =>
          cases e
          obtain ⟨y, hy, hd⟩ := R1.val e2
          exact ⟨y, hy, hd.mono s0⟩
        | _ => cases e
    have Rc : Rep (X.pk τ) ⟨upd C c' (LamX.CodeO c' (X.env.qual ++ "<lambda>")), H1, []⟩ (.fnc f c' (X.env.qual ++ "<lambda>") σ (ρ.map valOf) :: List.replicate (N.length - 1) .un) (upd C c' (LamX.CodeO c' (X.env.qual ++ "<lambda>"))) (L2.start N [.ref f]) H1 := by
      refine ⟨same_refl _, sub0, fun b o k _ _ => k, R1.htb, R1.htb, fun b o k => ?_, R1.tabs, fun b o k k0 => ?_, (fun q hq => by cases hq), R1.sys, ?_, fun i sl hs => ?_, fun i j p r r' o o' ij hi hj _ _ => ?_⟩
      · by_cases hb : b = c'
        · subst hb; rw [upd_same] at k; cases k; exact code_nt
        · rw [upd_ne hb] at k; exact R1.ctab b o k
      · have k0 : upd C c' (LamX.CodeO c' (X.env.qual ++ "<lambda>")) b = none := k0
        rw [k] at k0; cases k0
      · unfold L2.start
        simp [lN]
      · cases i with
        | zero =>
          cases hs
          exact ⟨rfl, upd_same, by rw [List.length_map, R1.len], hvs⟩
        | succ i =>
          have hs : (List.replicate (N.length - 1) Slot.un)[i]? = some sl := by simpa using hs
          rw [List.getElem?_replicate] at hs
          split at hs
          · cases hs; trivial
          · cases hs
      · cases i with
        | zero => cases hi
        | succ i =>
          have hi : (List.replicate (N.length - 1) Slot.un)[i]? = some (.own r o) := by simpa using hi
          rw [List.getElem?_replicate] at hi
          split at hi
          · cases hi
          · cases hi
    have key : sp (fun K => qn ((ρ.map valOf).map slOf) fun d _ => K d) (fun E => qr ((ρ.map valOf).map slOf) fun c d _ => E c d) (fun d => κ d ρ) := by
      rw [List.map_map]
      exact kq
    have fin : ∀ (d : PyData) (ρ' : Ro) (v : V) (C' : Hp) (σ' : St) (H' : Hp), κ d ρ → Same (upd C c' (LamX.CodeO c' (X.env.qual ++ "<lambda>"))) C' → Rep (X.pk τ) ⟨upd C c' (LamX.CodeO c' (X.env.qual ++ "<lambda>")), H1, []⟩ ρ' C' σ' H' → Da X.w C' v d → Q v H' := by
      intro d ρ' v C' σ' H' kd s' R' d'
      let C2 : Hp := fun b => if b = c' then C c' else C' b
      have c2 : ∀ b, b ≠ c' → C2 b = C' b := fun b hb => if_neg hb
      have c2c : C2 c' = C c' := if_pos rfl
      have sC : Same C C2 := fun b o e => by
        by_cases hb : b = c'
        · subst hb; rw [c2c]; exact e
        · rw [c2 b hb]; exact s' b o (by rw [upd_ne hb]; exact e)
      have hc' : C' c' = some (LamX.CodeO c' (X.env.qual ++ "<lambda>")) := s' _ _ upd_same
      have hcH : H' c' = some (LamX.CodeO c' (X.env.qual ++ "<lambda>")) := R'.sub _ _ hc'
      have off : ∀ b o, C' b = some o → (∀ e q, o ≠ LamX.CodeO e q) → C2 b = some o := fun b o e n => by
        by_cases hb : b = c'
        · subst hb; rw [hc'] at e; exact absurd (Option.some.inj e).symm (n _ _)
        · rw [c2 b hb]; exact e
      have Rb : Rep (X.pk τ) ⟨C, H1, []⟩ [] C2 [] H' := by
        refine ⟨sC, fun b o e => ?_, R'.keep, R'.tbl, R'.htb, fun b o e => ?_, R'.tabs, fun b o e e0 => ?_, (fun q hq => by cases hq), R'.sys, rfl, fun i sl h => by simp at h, fun i j p r r' o o' _ h => by simp at h⟩
        · by_cases hb : b = c'
          · subst hb; rw [c2c] at e; rw [cc o e]; exact hcH
          · rw [c2 b hb] at e; exact R'.sub b o e
        · by_cases hb : b = c'
          · subst hb; rw [c2c] at e; exact R1.ctab b o e
          · rw [c2 b hb] at e; exact R'.ctab b o e
        · have e0 : C b = none := e0
          by_cases hb : b = c'
          · subst hb; rw [c2c, e0] at e; cases e
          · rw [c2 b hb] at e
            exact R'.new b o e (by show upd C c' _ b = none; rw [upd_ne hb]; exact e0)
      exact z d ρ v C2 H' kd sC (R1.behind Rb) (d'.off off)
    exact ⟨_, _, _, Rc, _, hq _ _ key, fun ρ' C' σ' H' k' s' R' => fin _ ρ' _ C' σ' H' k' s' R' .non, fun d ρ' v C' σ' H' k' s' R' d' => fin d ρ' v C' σ' H' k' s' R' d', fun _ _ _ _ k' => False.elim k', fun _ _ _ _ k' => False.elim k'⟩
  refine wpAny_call (codeAny_mono rc fun r s2 hq => ?_)
  match r, hq with
  | .error e, hq => exact (show False from hq).elim
  | .ok (.ret u), hq => exact I1.after hq
  | .ok .next, hq => exact hq.elim
  | .ok .brk, hq => exact hq.elim
  | .ok .cont, hq => exact hq.elim
end
end L2.Pu

set_option Elab.async false
set_option linter.all false
set_option maxRecDepth 100000
set_option maxHeartbeats 4000000
/-! ## enumerate, the pairs' objects known -/
namespace L2.Pu
open PySem PySem.Spec PyProof.Rows
/-- the list at a, with the places, in new pairs -/
def IteF (K : PySem.W.Frag) (a : Addr) : It :=
  ⟨fun i H => ∃ (xs : List V) (x : V), SqL K H a xs ∧ xs[i]? = some x, fun i H v H' => ∃ T x o, v = .ref T ∧ H T = none ∧ Fine o [.int (i : Nat), x] ∧ H' = upd H T o ∧ ∀ xs, SqL K H a xs → xs[i]? = some x, fun i H => ∃ xs : List V, SqL K H a xs ∧ xs.length ≤ i⟩
theorem turn_enumF {P : Program} {w : World} {K : PySem.W.Frag} {elts : List Expr} {kk : Nat} {tpos : Pos} (a e it : Addr) :
    Turn P w K (.Tuple elts kk tpos) (IteF K a) [e, it] e (fun i h => (∃ old, IsEnum h e it ((i : Nat) : Int) old) ∧ h.IsListIter it a i ∧ e ≠ it) where
  mem := (turn_enum (P := P) (w := w) (K := K) (elts := elts) (kk := kk) (tpos := tpos) a e it).mem
  obj := (turn_enum (P := P) (w := w) (K := K) (elts := elts) (kk := kk) (tpos := tpos) a e it).obj
  keep := (turn_enum (P := P) (w := w) (K := K) (elts := elts) (kk := kk) (tpos := tpos) a e it).keep
  done := (turn_enum (P := P) (w := w) (K := K) (elts := elts) (kk := kk) (tpos := tpos) a e it).done
  self := (turn_enum (P := P) (w := w) (K := K) (elts := elts) (kk := kk) (tpos := tpos) a e it).self
  item := by
    intro X hP hw hK hc i pins s σ H E I hf st hg
    subst hP hw hK
    obtain ⟨⟨old, oe⟩, li, ne⟩ := st
    obtain ⟨xs, x, sq, at_i⟩ := hg
    obtain ⟨us, rs, pl, _⟩ := I.list sq
    obtain ⟨u, hu, ru⟩ := rs.get at_i
    have le : e < s.heap.objs.size := Heap.lt_size oe
    have ll : it < s.heap.objs.size := let ⟨_, q, _⟩ := li; Heap.lt_size q
    refine wpAny_pyNext_enum_item oe li pl.isList (x := u) (by simpa using hu) ne fun h1 o1 l1 t1 z1 k1 => ⟨_, rfl, wpAny_letOwnedTupleGo_enum (s := { s with heap := h1, toks := s.toks + 1 }) o1 fun h2 o2 sb => ?_⟩
    have t2 : h2.get? s.heap.objs.size = some { cls := .type "tuple", data := .seq #[.int i s.toks, u] } := (sb.2 _ (Nat.ne_of_gt le)).trans t1
    have ok2 : ObjOk X.prog X.w (upd H s.heap.objs.size (.frz { cls := .type "tuple", data := .seq #[.int i s.toks, u] } (.tup [.int (i : Nat), x]))) h2 s.heap.objs.size (.frz { cls := .type "tuple", data := .seq #[.int i s.toks, u] } (.tup [.int (i : Nat), x])) :=
      ⟨t2, (by show 2 ≤ sizeLine; decide), [.int i s.toks, u], .cons ⟨_, rfl⟩ (.cons ru .nil), _, t2, rfl, _, rfl⟩
    have I2 := I.turnedNew (t' := s.toks + 1) (ch := [e, it]) (fun b ob nb q => (sb.2 b (fun z => nb (by simp [z]))).trans (k1 b ob (fun z => nb (by simp [z])) (fun z => nb (by simp [z])) q)) hf (Nat.le_refl _) ok2
    refine ⟨.ref s.heap.objs.size, _, I2, rfl, ⟨_, x, _, rfl, I.hok.fresh (Nat.le_refl _), ⟨_, rfl, rfl⟩, rfl, fun ys hy => by rw [I.list_inj hy sq]; exact at_i⟩, ⟨⟨u, by rw [show ((i + 1 : Nat) : Int) = (i : Int) + 1 by omega]; exact o2⟩, l1.at fun o q => (sb.2 it (Ne.symm ne)).trans q, ne⟩, fun b hb => ?_⟩
    have lb : b < s.heap.objs.size := by
      rcases (show b = e ∨ b = it by simpa using hb) with z | z
      · rw [z]; exact le
      · rw [z]; exact ll
    rw [upd_ne (Nat.ne_of_lt lb)]
    exact (hf b hb).1
section
variable {X : Cx} {τ : Tb} {pos tpos p : Pos} {e : Expr} {elts : List Expr} {kk : Nat}
def iEnumF (K : PySem.W.Frag) (te : TE) : TI := fun σ H R => te σ H fun v H1 => ∃ a xs, v = .ref a ∧ SqL K H1 a xs ∧ (xs.length ≤ sizeLine → R (IteF K a) H1)
theorem pi_enumF {te : TE} (hg : Gl X "enumerate") (hm : X.mg "enumerate" = none) (he : PE X e te) (hs : starEach [e] X.env = [(false, eval e X.env)] := by rfl) :
    PI X (.Tuple elts kk tpos) (.Call (.Name "enumerate" p) [e] [] pos) (iEnumF X.K te) := by
  refine ⟨fun pins s σ H R I h => ?_⟩
  have ha : PA X [e] (tCons te tNil) := pa_cons he pa_nil hs
  refine Call_ (ld_blt I hg hm boot_enumerate (PyProof.Rows.callWith_type1 (thn (ha.run pos pins s σ H (fun vs H1 => match vs with
    | [x] => ∃ a xs, x = .ref a ∧ SqL X.K H1 a xs ∧ (xs.length ≤ sizeLine → R (IteF X.K a) H1)
    | _ => False) I h) fun us s1 hh => ?_) hs rfl))
  obtain ⟨vs, H1, I1, r1, hh⟩ := hh
  match vs, r1, hh with
  | [x], r1, hh =>
    obtain ⟨a, xs, rfl, sq, q⟩ := hh
    obtain ⟨u, rfl, ru⟩ := vals1 r1
    cases (show u = Value.ref a from ru)
    obtain ⟨us, rs, pl, z⟩ := I1.list sq
    refine call_enumerate_list pl.isList fun h1 o1 l1 z1 k1 => wpAny_pyIter_enum o1 ?_
    refine ⟨s1.heap.objs.size + 1, [s1.heap.objs.size + 1, s1.heap.objs.size], _, _, H1, rfl, I1.kept (t' := s1.toks) k1, turn_enumF a (s1.heap.objs.size + 1) s1.heap.objs.size, ⟨⟨.none, o1⟩, l1, Nat.succ_ne_self _⟩, fun b hb => ?_, q z⟩
    have le : s1.heap.objs.size ≤ b := by
      rcases (show b = s1.heap.objs.size + 1 ∨ b = s1.heap.objs.size by simpa using hb) with z | z
      · rw [z]; exact Nat.le_succ _
      · rw [z]; exact Nat.le_refl _
    exact I1.fpOk le (I1.hok.fresh le)
/-- a list with its places -/
def enumD : Nat → List PyData → List PyData
  | _, [] => []
  | i, d :: ds => .tuple [.int (i : Nat), d] :: enumD (i + 1) ds
theorem enumD_len : ∀ (i : Nat) (ds : List PyData), (enumD i ds).length = ds.length
  | _, [] => rfl
  | i, d :: ds => by rw [enumD, List.length_cons, List.length_cons, enumD_len (i + 1) ds]
theorem enumD_get : ∀ (ds : List PyData) (j i : Nat) (d : PyData), ds[i]? = some d → (enumD j ds)[i]? = some (.tuple [.int ((j + i : Nat) : Int), d])
  | [], _, _, _, h => by simp at h
  | d :: ds, j, 0, e, h => by simp at h; subst h; simp [enumD]
  | d :: ds, j, i + 1, e, h => by
    have := enumD_get ds (j + 1) i e (by simpa using h)
    rw [enumD, List.getElem?_cons_succ, this, show j + 1 + i = j + (i + 1) by omega]
def qEnum (q : QE) : QI := fun ρ κ => q ρ fun d ρ1 => match d with
  | .list ds => κ (enumD 0 ds) ρ1
  | _ => False
theorem qi_enum {q : QE} (hg : Gl X "enumerate") (hm : X.mg "enumerate" = none) (h : PQ τ X e q) (hs : starEach [e] X.env = [(false, eval e X.env)] := by rfl) : PQI τ X (.Tuple elts kk tpos) (.Call (.Name "enumerate" p) [e] [] pos) (qEnum q) := by
  refine pi_imp (pi_enumF hg hm h hs) ?_
  rintro σ H R ⟨F, ρ, C, R0, κ, k, z⟩
  refine ⟨F, ρ, C, R0, _, k, fun d ρ1 v C1 H1 k1 s1 R1 d1 => ?_⟩
  cases d1 with
  | @lst a xs ds ea n ha =>
    refine ⟨a, xs, rfl, SqL.of (R1.sub _ _ ea), fun hz => z _ ρ1 C1 H1 _ k1 s1 R1 ⟨fun i C' H s s' lt => ?_, fun i F ρ C' σ H y H' R s hy lt => ?_, fun i C' H s s' le => ?_, ?_⟩⟩
    · rw [enumD_len, ← ha.length] at lt
      exact ⟨xs, xs[i], SqL.of (s' _ _ (s _ _ ea)), List.getElem?_eq_getElem lt⟩
    · obtain ⟨T, x, o, rfl, nT, ⟨ob, rfl, hd⟩, rfl, hx⟩ := hy
      have e1 := hx xs (SqL.of (R.sub _ _ (s _ _ ea)))
      obtain ⟨d, a1, a2⟩ := (ha.mono s).get e1
      have cp := sub_none R.sub nT
      refine ⟨_, _, by have := enumD_get ds 0 i d a1; rw [Nat.zero_add] at this; exact this, same_new (o := .frz ob (.tup [.int (i : Nat), x])) cp, R.lay nT, .tup upd_same hd (.cons (.int _) (.cons (a2.mono (same_new cp)) .nil))⟩
    · rw [enumD_len, ← ha.length] at le
      exact ⟨xs, SqL.of (s' _ _ (s _ _ ea)), le⟩
    · rw [enumD_len, ← ha.length]; exact hz
  | _ => exact False.elim k1
end
end L2.Pu

set_option Elab.async false
set_option linter.all false
set_option maxRecDepth 100000
set_option maxHeartbeats 4000000
/-! ## sorted of a list of data -/
namespace L2.Pu
open PySem PySem.Spec PyProof.Rows
/-- data that can be sorted -/
structure SortOk (ds : List PyData) : Prop where
  alike : PySem.W.AllAlike ds
  kind : PySem.W.Sortable ds ∨ ds.length ≤ 1 ∧ ∀ d ∈ ds, d ≠ .none
  flat : ∀ d ∈ ds, d.hasDict = false ∧ d.depth ≤ 40
noncomputable def sortD (ds : List PyData) : List PyData := ds.mergeSort (PySem.W.dataLe false id)
theorem sorts_one {prog : Program} {w : World} {A : Around} {s : Shared} {vs : List Value} {ds : List PyData} (e : PySem.W.EachIs (fun v d => ∃ as, Reads s.heap v d as) vs ds) (hal : PySem.W.AllAlike ds) (hl : ds.length ≤ 1) (hn : ∀ d ∈ ds, d ≠ .none) (hu : ∀ d, d ∈ ds → A.units + d.depth < cLine) : PySem.W.SortsAt prog w A s (PySem.W.dataKind s.heap ds) vs := by
  refine ⟨fun v hv => ?_, PyProof.Rows.general', fun E x y a b Q ha hb hq => ?_, fun h2 => ?_⟩
  · obtain ⟨d, hd, as, r⟩ := e.left v hv
    exact ⟨_, PySem.W.dataKind_some hal hd r⟩
  · obtain ⟨d, as, hd, ra, rfl⟩ := PySem.W.dataKind_inv ha
    obtain ⟨d', as', hd', rb, rfl⟩ := PySem.W.dataKind_inv hb
    exact PySem.W.oneLt_alike (f := false) (fun z => nomatch z) ra rb (hal d hd d' hd') (hn d hd) (Nat.lt_of_le_of_lt (Nat.add_le_add_left (Nat.min_le_left _ _) _) (hu d hd)) hq
  · have := e.length
    omega
section
variable {X : Cx} {τ : Tb} {pos p : Pos} {e : Expr} {es : List Expr}
def rSortG (K : PySem.W.Frag) (w : World) : RN := fun vs H Q => ∃ (C : Hp) (a : Addr) (xs : List V) (ds : List PyData), Same C H ∧ vs = [V.ref a] ∧ SqL K H a xs ∧ DaAll w C xs ds ∧ SortOk ds ∧ ∀ p ys, H p = none → DaAll w C ys (sortD ds) → Q (.ref p) (upd H p (.lst ys))
theorem each_zip {w : World} {H : Hp} : ∀ {xs : List V} {ds : List PyData} {us : List Value}, DaAll w H xs ds → Vals xs us → PySem.W.EachIs (fun (u : Value) (q : V × PyData) => RelV q.1 u ∧ Da w H q.1 q.2) us (xs.zip ds)
  | _, _, _, .nil, .nil => .nil
  | _, _, _, .cons a t, .cons r rt => .cons ⟨r, a⟩ (each_zip t rt)
theorem each_out {w : World} {H : Hp} : ∀ {out : List Value} {bs : List (V × PyData)}, PySem.W.EachIs (fun (u : Value) (q : V × PyData) => RelV q.1 u ∧ Da w H q.1 q.2) out bs → Vals (bs.map (·.1)) out ∧ DaAll w H (bs.map (·.1)) (bs.map (·.2))
  | _, _, .nil => ⟨.nil, .nil⟩
  | _, _, .cons h t => by
    obtain ⟨a, b⟩ := each_out t
    exact ⟨.cons h.1 a, .cons h.2 b⟩
theorem zip_snd : ∀ {xs : List V} {ds : List PyData}, xs.length = ds.length → (xs.zip ds).map (·.2) = ds
  | [], [], _ => rfl
  | x :: xs, d :: ds, h => by
    rw [List.zip_cons_cons, List.map_cons, zip_snd (by simpa using h)]
  | [], _ :: _, h => by simp at h
  | _ :: _, [], h => by simp at h
theorem call_sortG (hu : X.A.units + 64 < cLine) : CallR X (.builtin "sorted") (rSortG X.K X.w) := by
  intro pins s σ H vs us Q I r h
  obtain ⟨C, a, xs, ds, sub, rfl, sq, hd, ok, q⟩ := h
  obtain ⟨u, rfl, ru⟩ := vals1 r
  cases (show u = Value.ref a from ru)
  obtain ⟨its, rv, pl, z⟩ := I.list sq
  have ll := hd.length
  have e := each_zip hd rv
  have m2 := zip_snd ll
  have mem2 : ∀ b ∈ xs.zip ds, b.2 ∈ ds := fun b hb => (List.of_mem_zip (a := b.1) (b := b.2) hb).2
  have er : PySem.W.EachIs (fun (v : Value) (b : V × PyData) => ∃ as, Reads s.heap v b.2 as) its (xs.zip ds) := (PySem.W.each_mem e).mono fun v b hb => Da.reads I (hb.1.2.mono sub) (ok.flat b.2 (mem2 b hb.2)).1 v hb.1.1
  have len : its.length ≤ sizeLine := by rw [← rv.length]; exact z
  have lz : (xs.zip ds).length = its.length := by rw [List.length_zip, ll, Nat.min_self, ← ll, rv.length]
  have hal : PySem.W.AllAlike ((xs.zip ds).map (·.2)) := by rw [m2]; exact ok.alike
  have room : ∀ b ∈ xs.zip ds, X.A.units + 2 + b.2.depth < cLine := fun b hb => by have := (ok.flat b.2 (mem2 b hb)).2; omega
  have fin : ∀ out : List Value, PySem.W.EachIs (fun (u : Value) (q : V × PyData) => RelV q.1 u ∧ Da X.w C q.1 q.2) out ((xs.zip ds).mergeSort (PySem.W.dataLe false (·.2))) → EP X pins σ Q (.ref (s.heap.objs.size + 1)) { s with heap := PyProof.Rows.sortedAll s.heap its out.toArray } := fun out eo => by
    obtain ⟨vo, da⟩ := each_out eo
    have es : ((xs.zip ds).mergeSort (PySem.W.dataLe false (·.2))).map (·.2) = sortD ds := by
      unfold sortD
      rw [List.map_mergeSort (r := PySem.W.dataLe false fun q : V × PyData => q.2) (s := PySem.W.dataLe false id) (f := fun q : V × PyData => q.2) (fun _ _ _ _ => rfl), m2]
    rw [es] at da
    obtain ⟨ep, at_⟩ := PyProof.Rows.sortedAll_at s.heap its out.toArray
    refine ⟨.ref (s.heap.objs.size + 1), _, I.laid (t' := s.toks) (o := .lst (((xs.zip ds).mergeSort (PySem.W.dataLe false (·.2))).map (·.1))) (fun _ _ => PyProof.Rows.sortedAll_old) (Nat.le_succ _) ⟨?_, out, ep, vo, at_⟩, rfl, q _ _ (I.hok.fresh (Nat.le_succ _)) da⟩
    rw [List.length_map, List.length_mergeSort, lz]; exact len
  rcases ok.kind with hk | ⟨h1, hn⟩
  · exact PySem.W.sorted_data (enc := fun b : V × PyData => b.2) pl.isList e er hal (by rw [m2]; exact hk) (by rw [lz]; exact len) room fun out _ eo => fin out eo
  · have er' : PySem.W.EachIs (fun (v : Value) (b : V × PyData) => ∃ as, Reads (PySem.W.sortingHeap (PySem.W.copyHeap s.heap its) (s.heap.objs.size + 1) its) v b.2 as) its (xs.zip ds) := er.mono fun _ _ ⟨as, r⟩ => ⟨as, PyProof.Rows.Reads.keeps (fun _ _ => PySem.W.sorting_copy_old) r⟩
    have em : PySem.W.EachIs (fun v d => ∃ as, Reads (PySem.W.sortingHeap (PySem.W.copyHeap s.heap its) (s.heap.objs.size + 1) its) v d as) its ((xs.zip ds).map (·.2)) := PySem.W.each_map (R := fun v d => ∃ as, Reads (PySem.W.sortingHeap (PySem.W.copyHeap s.heap its) (s.heap.objs.size + 1) its) v d as) (fun q : V × PyData => q.2) er'
    refine PySem.W.sorted_vals pl.isList (sorts_one (s := { s with heap := PySem.W.sortingHeap (PySem.W.copyHeap s.heap its) (s.heap.objs.size + 1) its }) em hal (by rw [m2]; exact h1) (by rw [m2]; exact hn) fun d hd => ?_) len (fin _ (PySem.W.sortVals_data false e er' hal))
    obtain ⟨b, hb, rfl⟩ := List.mem_map.mp hd
    exact room b hb
def sortGF : DF := fun ds P => match ds with
  | [.list xs] => SortOk xs ∧ P (.lst (sortD xs))
  | _ => False
theorem ok_sortG : OkF τ X (rSortG X.K X.w) sortGF := by
  intro F ρ C σ H vs ds P Q R a h z
  cases a with
  | nil => exact False.elim h
  | cons a t =>
    cases t with
    | cons => cases a <;> exact False.elim h
    | nil =>
      cases a with
      | @lst b xs ds eb ha =>
        obtain ⟨ok, h⟩ := h
        exact ⟨C, b, xs, ds, R.sub, rfl, SqL.of eb, ha, ok, fun p ys np da => z _ _ _ h np ⟨ys, upd_same, da⟩⟩
      | _ => exact False.elim h
theorem qf_sortG {as : List BArg} (hu : X.A.units + 64 < cLine) (hg : Gl X "sorted") (hm : X.mg "sorted" = none) (ha : PQB τ X (e :: es) as) (he : starEach (e :: es) X.env = (false, eval e X.env) :: starEach es X.env := by rfl) (hpl : (backTo pos (starEach es X.env)).any (·.1) = false := by rfl) :
    PQF τ X (.Call (.Name "sorted" p) (e :: es) [] pos) (qBltF sortGF as) := qf_blt (call_sortG hu) ok_sortG hg hm (by decide +kernel) ha (by decide) (by decide) he hpl
end
end L2.Pu

set_option Elab.async false
set_option linter.all false
set_option maxRecDepth 100000
set_option maxHeartbeats 4000000
namespace L2.Pu
open PySem PySem.Spec PyProof.Rows
def top (i : Nat) : Stmt := PySem.Challenge.pw_featureunion_k08_least_requests.main.body.getD i (.Pass ⟨0, 0, 0, 0⟩)
abbrev s_is_name : Stmt := top 7
abbrev n_is_name : List Str := ["thing", "letter"]
abbrev p_is_name : List Str := ["thing"]
theorem sc_is_name : FnScope n_is_name p_is_name (defScope s_is_name) := ⟨rfl, rfl, rfl, by decide +kernel, rfl, by decide +kernel, by decide +kernel⟩
abbrev s_are_ascending_names : Stmt := top 9
abbrev n_are_ascending_names : List Str := ["thing", "name", "at"]
abbrev p_are_ascending_names : List Str := ["thing"]
theorem sc_are_ascending_names : FnScope n_are_ascending_names p_are_ascending_names (defScope s_are_ascending_names) := ⟨rfl, rfl, rfl, by decide +kernel, rfl, by decide +kernel, by decide +kernel⟩
abbrev s_features_in : Stmt := top 10
abbrev n_features_in : List Str := ["manifest", "pair"]
abbrev p_features_in : List Str := ["manifest"]
theorem sc_features_in : FnScope n_features_in p_features_in (defScope s_features_in) := ⟨rfl, rfl, rfl, by decide +kernel, rfl, by decide +kernel, by decide +kernel⟩
abbrev s_is_request : Stmt := top 11
abbrev n_is_request : List Str := ["manifest", "thing", "features", "name"]
abbrev p_is_request : List Str := ["manifest", "thing"]
theorem sc_is_request : FnScope n_is_request p_is_request (defScope s_is_request) := ⟨rfl, rfl, rfl, by decide +kernel, rfl, by decide +kernel, by decide +kernel⟩
abbrev s_closed_over : Stmt := top 12
abbrev n_closed_over : List Str := ["manifest", "features", "implied", "found", "waiting", "feature"]
abbrev p_closed_over : List Str := ["manifest", "features"]
theorem sc_closed_over : FnScope n_closed_over p_closed_over (defScope s_closed_over) := ⟨rfl, rfl, rfl, by decide +kernel, rfl, by decide +kernel, by decide +kernel⟩
abbrev s_closure : Stmt := top 13
abbrev n_closure : List Str := ["manifest", "request"]
abbrev p_closure : List Str := ["manifest", "request"]
theorem sc_closure : FnScope n_closure p_closure (defScope s_closure) := ⟨rfl, rfl, rfl, by decide +kernel, rfl, by decide +kernel, by decide +kernel⟩
abbrev s_place_of : Stmt := top 14
abbrev n_place_of : List Str := ["request"]
abbrev p_place_of : List Str := ["request"]
theorem sc_place_of : FnScope n_place_of p_place_of (defScope s_place_of) := ⟨rfl, rfl, rfl, by decide +kernel, rfl, by decide +kernel, by decide +kernel⟩
abbrev s_subsets_of : Stmt := top 15
abbrev n_subsets_of : List Str := ["names", "found", "name", "subset"]
abbrev p_subsets_of : List Str := ["names"]
theorem sc_subsets_of : FnScope n_subsets_of p_subsets_of (defScope s_subsets_of) := ⟨rfl, rfl, rfl, by decide +kernel, rfl, by decide +kernel, by decide +kernel⟩
abbrev s_all_requests : Stmt := top 16
abbrev n_all_requests : List Str := ["manifest"]
abbrev p_all_requests : List Str := ["manifest"]
theorem sc_all_requests : FnScope n_all_requests p_all_requests (defScope s_all_requests) := ⟨rfl, rfl, rfl, by decide +kernel, rfl, by decide +kernel, by decide +kernel⟩
abbrev s_least_requests : Stmt := top 17
abbrev n_least_requests : List Str := ["manifest", "request", "goal", "same", "other"]
abbrev p_least_requests : List Str := ["manifest", "request"]
theorem sc_least_requests : FnScope n_least_requests p_least_requests (defScope s_least_requests) := ⟨rfl, rfl, rfl, by decide +kernel, rfl, by decide +kernel, by decide +kernel⟩
abbrev s_L_hand : Stmt := top 19
abbrev n_L_hand : List Str := ["_law_script", "_law_k", "_law_cell", "_law_great"]
abbrev p_L_hand : List Str := ["_law_script", "_law_k"]
theorem sc_L_hand : FnScope n_L_hand p_L_hand (defScope s_L_hand) := ⟨rfl, rfl, rfl, by decide +kernel, rfl, by decide +kernel, by decide +kernel⟩
abbrev s_L_take : Stmt := top 20
abbrev n_L_take : List Str := ["_law_hand_here", "_law_many", "_law_digit", "_law_prime", "_law_drawn"]
abbrev p_L_take : List Str := ["_law_hand_here", "_law_many"]
theorem sc_L_take : FnScope n_L_take p_L_take (defScope s_L_take) := ⟨rfl, rfl, rfl, by decide +kernel, rfl, by decide +kernel, by decide +kernel⟩
abbrev s_L_of : Stmt := top 21
abbrev n_L_of : List Str := ["_law_hand_here", "_law_some_here"]
abbrev p_L_of : List Str := ["_law_hand_here", "_law_some_here"]
theorem sc_L_of : FnScope n_L_of p_L_of (defScope s_L_of) := ⟨rfl, rfl, rfl, by decide +kernel, rfl, by decide +kernel, by decide +kernel⟩
abbrev s_L_some : Stmt := top 22
abbrev n_L_some : List Str := ["_law_hand_here", "_law_things", "_law_often", "_law_thing"]
abbrev p_L_some : List Str := ["_law_hand_here", "_law_things", "_law_often"]
theorem sc_L_some : FnScope n_L_some p_L_some (defScope s_L_some) := ⟨rfl, rfl, rfl, by decide +kernel, rfl, by decide +kernel, by decide +kernel⟩
abbrev s_L_names : Stmt := top 23
abbrev n_L_names : List Str := ["_law_hand_here", "_law_count", "_law_left"]
abbrev p_L_names : List Str := ["_law_hand_here", "_law_count"]
theorem sc_L_names : FnScope n_L_names p_L_names (defScope s_L_names) := ⟨rfl, rfl, rfl, by decide +kernel, rfl, by decide +kernel, by decide +kernel⟩
abbrev s_L_manifest : Stmt := top 24
abbrev n_L_manifest : List Str := ["_law_hand_here", "_law_count", "_law_names_here", "_law_often", "_law_rows", "_law_name", "_law_other"]
abbrev p_L_manifest : List Str := ["_law_hand_here", "_law_count"]
theorem sc_L_manifest : FnScope n_L_manifest p_L_manifest (defScope s_L_manifest) := ⟨rfl, rfl, rfl, by decide +kernel, rfl, by decide +kernel, by decide +kernel⟩
abbrev s_L_odd : Stmt := top 25
abbrev n_L_odd : List Str := ["_law_hand_here", "_law_some_here", "_law_found", "_law_turn"]
abbrev p_L_odd : List Str := ["_law_hand_here"]
theorem sc_L_odd : FnScope n_L_odd p_L_odd (defScope s_L_odd) := ⟨rfl, rfl, rfl, by decide +kernel, rfl, by decide +kernel, by decide +kernel⟩
abbrev s_L_is_some_of : Stmt := top 26
abbrev n_L_is_some_of : List Str := ["_law_names_here", "_law_thing", "_law_one"]
abbrev p_L_is_some_of : List Str := ["_law_names_here", "_law_thing"]
theorem sc_L_is_some_of : FnScope n_L_is_some_of p_L_is_some_of (defScope s_L_is_some_of) := ⟨rfl, rfl, rfl, by decide +kernel, rfl, by decide +kernel, by decide +kernel⟩
abbrev s_L_closed : Stmt := top 27
abbrev n_L_closed : List Str := ["_law_manifest_here", "_law_some_here", "_law_implied", "_law_found", "_law_waiting", "_law_name"]
abbrev p_L_closed : List Str := ["_law_manifest_here", "_law_some_here"]
theorem sc_L_closed : FnScope n_L_closed p_L_closed (defScope s_L_closed) := ⟨rfl, rfl, rfl, by decide +kernel, rfl, by decide +kernel, by decide +kernel⟩
abbrev s_L_subsets : Stmt := top 28
abbrev n_L_subsets : List Str := ["_law_names_here", "_law_found", "_law_name", "_law_some_here"]
abbrev p_L_subsets : List Str := ["_law_names_here"]
theorem sc_L_subsets : FnScope n_L_subsets p_L_subsets (defScope s_L_subsets) := ⟨rfl, rfl, rfl, by decide +kernel, rfl, by decide +kernel, by decide +kernel⟩
abbrev s_L_raised : Stmt := top 29
abbrev n_L_raised : List Str := ["_law_call", "_law_caught", "_law_told", "error", "_law_is_alone"]
abbrev p_L_raised : List Str := ["_law_call"]
theorem sc_L_raised : FnScope n_L_raised p_L_raised (defScope s_L_raised) := ⟨rfl, rfl, rfl, by decide +kernel, rfl, by decide +kernel, by decide +kernel⟩
abbrev s_L_least : Stmt := top 30
abbrev n_L_least : List Str := ["_law_manifest_here", "_law_known", "_law_whole", "_law_some_here", "_law_count", "_law_one"]
abbrev p_L_least : List Str := ["_law_manifest_here", "_law_known", "_law_whole"]
theorem sc_L_least : FnScope n_L_least p_L_least (defScope s_L_least) := ⟨rfl, rfl, rfl, by decide +kernel, rfl, by decide +kernel, by decide +kernel⟩
abbrev s_law : Stmt := top 31
abbrev n_law : List Str := ["_law_script", "_law_k", "_law_hand_here", "_law_turn", "_law_names_here", "_law_noted", "_law_known", "_law_things", "_law_due", "_law_manifest_here", "_law_thing", "_law_name", "_law_implied", "_law_some_here", "_law_again"]
abbrev p_law : List Str := ["_law_script"]
theorem sc_law : FnScope n_law p_law (defScope s_law) := ⟨rfl, rfl, rfl, by decide +kernel, rfl, by decide +kernel, by decide +kernel⟩
section
variable {P : Program} {w : World} {K : PySem.W.Frag} {mg : Str → Option Value} {base : Heap} {τ : Tb}
theorem pf_features_in {f : Addr} {fd : FuncData} (F : Fun K "features_in" "features_in" s_features_in f fd) (hm : mg "features_in" = some (.ref f)) (hk : PySem.W.keepIn K (.ref f) = true) (hb : Binds K fd p_features_in []) (z_tuple : mg "tuple" = none) : PFn τ P w K mg base 1 "features_in" p_features_in spFeaturesIn := by
  refine fn_ofC F hm hk hb sc_features_in (fun ss κ h => by obtain ⟨m, rfl, _⟩ := h; rfl) fun cdv A outer s H E code gd hr => ?_
  refine ⟨_, (qss_one (qs_ret (qe_tuple (by rfl) z_tuple (qb_e (qe_of (qf_lc (own := [("pair", 1)]) rfl sc_features_in.nd (qi_any (qe_var (pv 0))) (blkOk_by (N := n_features_in) (sc := defScope s_features_in) (by decide +kernel)) (fun _ _ _ _ _ => (qv_name (i := 1) sc_features_in.nd rfl (.inl rfl) (by decide))) (fun _ _ _ _ _ => qts_nil) (fun _ _ _ _ _ => (qe_ix (qe_var (pv 1)) qe_int)))) qb_nil)))), fun ss κ h => ?_⟩
  obtain ⟨m, rfl, k⟩ := h
  refine lcL_map (ds := m.map rowD) (ρ := [.val (manD m), .un]) headD (fun d => rfl) (fun d hd k => ?_) ?_
  · obtain ⟨r, _, rfl⟩ := List.mem_map.mp hd
    exact fun h => h
  · show κ (.tuple ((m.map rowD).map headD)) [.un]
    rw [List.map_map]
    have : tupS (m.map (·.1)) = .tuple (m.map (headD ∘ rowD)) := by unfold tupS; rw [List.map_map]; rfl
    rw [← this]; exact k
theorem pf_subsets_of {f : Addr} {fd : FuncData} (F : Fun K "subsets_of" "subsets_of" s_subsets_of f fd) (hm : mg "subsets_of" = some (.ref f)) (hk : PySem.W.keepIn K (.ref f) = true) (hb : Binds K fd p_subsets_of []) (z_len : mg "len" = none) (z_sorted : mg "sorted" = none) (KD_place_of : KeyDef K mg "place_of") : PFn τ P w K mg base 1 "subsets_of" p_subsets_of spSubsets := by
  refine fn_ofC F hm hk hb sc_subsets_of (fun ss κ h => by obtain ⟨m, rfl, _⟩ := h; rfl) fun cdv A outer s H E code gd hr => ?_
  refine ⟨_, (qss_cons (qs_set (i := 1) sc_subsets_of.nd rfl (.inl rfl) (qe_list (qa_cons (qe_tup qa_nil) qa_nil)))
      (qss_cons (qs_for PassesOwn.never rfl (qi_any (qe_var (pv 0))) (qg_name (i := 2) sc_subsets_of.nd rfl (.inr rfl)) (qss_one (qs_set (i := 1) sc_subsets_of.nd rfl (.inl rfl) (qe_add (qe_var (pv 1)) (qe_of (qf_lc (own := [("subset", 3)]) rfl sc_subsets_of.nd (qi_any (qe_var (pv 1))) (blkOk_by (N := n_subsets_of) (sc := defScope s_subsets_of) (by decide +kernel)) (fun _ _ _ _ _ => (qv_name (i := 3) sc_subsets_of.nd rfl (.inl rfl) (by decide))) (fun _ _ _ _ _ => qts_nil) (fun _ _ _ _ _ => (qe_add (qe_var (pv 3)) (qe_tup (qa_cons (qe_var (pv 2)) qa_nil))))))))))
      (qss_one (qs_ret (qe_of (qf_sortF KD_place_of (ru64 hr) (rdep hr) (by rfl) z_sorted z_len (by rfl) (qe_var (pv 1)))))))), fun ss κ h => ?_⟩
  obtain ⟨names, rfl, hl, k⟩ := h
  refine forL_by (fun ds ρ => ∃ done rest s2, names = done ++ rest ∧ ds = rest.map PyData.str ∧ ρ = [.val (tupS names), .val (.list ((subsD done).map tupS)), s2, .un]) ?_ ?_ _ _ ⟨[], names, .un, rfl, rfl, rfl⟩
  · rintro ρ ⟨done, rest, s2, e, hd, rfl⟩
    cases rest with
    | cons => cases hd
    | nil =>
      rw [List.append_nil] at e; subst e
      exact ⟨_, rfl, k⟩
  · rintro d ds ρ ⟨done, rest, s2, e, hd, rfl⟩
    cases rest with
    | nil => cases hd
    | cons x rest =>
      cases hd
      have dl : done.length + 1 ≤ 10 := by rw [e] at hl; simp at hl; omega
      refine lcL_map (ds := (subsD done).map tupS) (ρ := [.val (tupS names), .val (.list ((subsD done).map tupS)), .val (.str x), .un]) (tailD x) (fun d => rfl) (fun d hd k => ?_) ?_
      · obtain ⟨r, hr, rfl⟩ := List.mem_map.mp hd
        have := subsD_short hr
        exact fun h => ⟨by simp; omega, h⟩
      · refine ⟨?_, done ++ [x], rest, .val (.str x), by rw [e, List.append_assoc]; rfl, rfl, ?_⟩
        · rw [List.length_map, List.length_map, List.length_map, subsD_len]
          have : 2 ^ done.length ≤ 2 ^ 10 := Nat.pow_le_pow_right (by decide) (by omega)
          omega
        · have : (subsD (done ++ [x])).map tupS = (subsD done).map tupS ++ ((subsD done).map tupS).map (tailD x) := by
            rw [subsD_snoc, List.map_append, List.map_map, List.map_map]
            congr 1
            refine List.map_congr_left fun r _ => ?_
            show tupS (r ++ [x]) = tailD x (tupS r)
            unfold tupS tailD
            rw [List.map_append]; rfl
          rw [this]; rfl
theorem pf_closed_over {f : Addr} {fd : FuncData} (F : Fun K "closed_over" "closed_over" s_closed_over f fd) (hm : mg "closed_over" = some (.ref f)) (hk : PySem.W.keepIn K (.ref f) = true) (hb : Binds K fd p_closed_over []) (z_dict : mg "dict" = none) (z_list : mg "list" = none) (z_set : mg "set" = none) (z_sorted : mg "sorted" = none) (z_tuple : mg "tuple" = none) : PFn τ P w K mg base 1 "closed_over" p_closed_over spClosedOver := by
  refine fn_ofC F hm hk hb sc_closed_over (fun ss κ h => by obtain ⟨m, fs, rfl, _⟩ := h; rfl) fun cdv A outer s H E code gd hr => ?_
  refine ⟨_, (qss_cons (qs_setO (i := 2) sc_closed_over.nd rfl (.inl rfl) (qf_dictOf rfl (by rfl) z_dict (qb_e (qe_var (pv 0)) qb_nil)))
      (qss_cons (qs_setO (i := 3) sc_closed_over.nd rfl (.inl rfl) (qf_set0 (by rfl) z_set))
      (qss_cons (qs_setO (i := 4) sc_closed_over.nd rfl (.inl rfl) (qf_listOf (by rfl) z_list (qb_e (qe_var (pv 1)) qb_nil)))
      (qss_cons (qs_while PassesOwn.never (qt_truN (pv 4)) (qss_cons (qs_set (i := 5) sc_closed_over.nd rfl (.inl rfl) (qe_pop (pv 4)))
      (qss_one (qs_if (qt_snotin (qe_var (pv 5)) (pv 3)) (qss_cons (qs_expr (qe_addS (pv 3) (qe_var (pv 5))))
      (qss_one (qs_expr (qe_extend (pv 4) (qa_cons (qe_dgetL (ru1 hr) (pv 2) (qe_var (pv 5))) qa_nil))))) qss_nil))))
      (qss_one (qs_ret (qe_tuple (by rfl) z_tuple (qb_e (qe_of (qf_sortSet rfl (by rfl) z_sorted (pv 3))) qb_nil)))))))), fun ss κ h => ?_⟩
  obtain ⟨m, fs, rfl, W, hi, hl, k⟩ := h
  ((conv => whnf); repeat (refine And.intro (Eq.refl _) ?_; conv => whnf)); rw [pairs_man]; dsimp only; rw [merge_man W]
  let ro : List Str → List Str → Slot → Ro := fun Fd ws s5 => [.val (manD m), .val (tupS fs), .own false (.dic (manE m)), .own false (.set Fd), .own false (.lst (ws.map PyData.str)), s5]
  ((conv => whnf); repeat (refine And.intro (Eq.refl _) ?_; conv => whnf))
  refine ⟨fun n ρ => ∃ Fd ws s5, Wl m fs Fd ws ∧ n = (11 - Fd.length) * 11 + ws.length ∧ ρ = ro Fd ws s5, ⟨_, [], fs, .un, Wl.init hi, rfl, rfl⟩, ?_⟩
  rintro n ρ ⟨Fd, ws, s5, w, rfl, rfl⟩
  have sz := w.size W
  rcases snoc_cases ws with rfl | ⟨ws, x, rfl⟩
  · ((conv => whnf); repeat (refine And.intro (Eq.refl _) ?_; conv => whnf))
    refine ⟨by omega, ?_⟩
    ((conv => whnf); repeat (refine And.intro (Eq.refl _) ?_; conv => whnf))
    rw [w.done W hi]
    exact k
  · ((conv => whnf); repeat (refine And.intro (Eq.refl _) ?_; conv => whnf))
    rw [isE_snoc]; ((conv => whnf); repeat (refine And.intro (Eq.refl _) ?_; conv => whnf))
    refine ⟨fun ρ => ∃ m', m' < (11 - Fd.length) * 11 + (ws ++ [x]).length ∧ ∃ Fd ws s5, Wl m fs Fd ws ∧ m' = (11 - Fd.length) * 11 + ws.length ∧ ρ = ro Fd ws s5, fun ρ' h => h, ?_⟩
    ((conv => whnf); repeat (refine And.intro (Eq.refl _) ?_; conv => whnf))
    rw [last_snoc]; dsimp only; rw [drop_snoc]
    by_cases hx : x ∈ Fd
    · ((conv => whnf); repeat (refine And.intro (Eq.refl _) ?_; conv => whnf))
      rw [decide_eq_true hx]; ((conv => whnf); repeat (refine And.intro (Eq.refl _) ?_; conv => whnf))
      exact ⟨_, by rw [List.length_append]; exact Nat.lt_succ_self _, Fd, ws, _, w.skip hx, rfl, rfl⟩
    · have w2 := w.fresh W hx
      have sz2 := w2.size W
      have hin := (w.inW x (List.mem_append_right _ List.mem_cons_self)).1
      ((conv => whnf); repeat (refine And.intro (Eq.refl _) ?_; conv => whnf))
      rw [decide_eq_false hx]; ((conv => whnf); repeat (refine And.intro (Eq.refl _) ?_; conv => whnf))
      refine ⟨by omega, ?_⟩
      ((conv => whnf); repeat (refine And.intro (Eq.refl _) ?_; conv => whnf))
      rw [getD_man hin]; ((conv => whnf); repeat (refine And.intro (Eq.refl _) ?_; conv => whnf))
      have len2 := w2.few
      refine ⟨by rw [List.length_map, List.length_map]; rw [List.length_append, List.length_cons] at len2; rw [List.length_cons] at sz2; omega, ?_⟩
      refine ⟨_, ?_, x :: Fd, ws ++ impl m x, .val (.str x), w2, rfl, ?_⟩
      · have := W.impl_short x
        rw [List.length_cons] at sz2
        rw [List.length_append, List.length_append, List.length_cons, List.length_singleton]
        omega
      · show _ = [Slot.val (manD m), .val (tupS fs), .own false (.dic (manE m)), .own false (.set (x :: Fd)), .own false (.lst ((ws ++ impl m x).map PyData.str)), Slot.val (.str x)]
        rw [List.map_append, show (x :: Fd) = addS Fd x by unfold addS; rw [if_neg hx]]
        rfl
theorem pf_all_requests {f : Addr} {fd : FuncData} (F : Fun K "all_requests" "all_requests" s_all_requests f fd) (hm : mg "all_requests" = some (.ref f)) (hk : PySem.W.keepIn K (.ref f) = true) (hb : Binds K fd p_all_requests []) (G_features_in : PFn τ P w K mg base 1 "features_in" p_features_in spFeaturesIn) (G_subsets_of : PFn τ P w K mg base 1 "subsets_of" p_subsets_of spSubsets) : PFn τ P w K mg base 2 "all_requests" p_all_requests spAllReq := by
  refine fn_ofC F hm hk hb sc_all_requests (fun ss κ h => by obtain ⟨m, rfl, _⟩ := h; rfl) fun cdv A outer s H E code gd hr => ?_
  refine ⟨_, (qss_one (qs_ret (qe_call G_subsets_of gd (hr.mono (by omega)) (by rfl) (qc_e (qe_call G_features_in gd (hr.mono (by omega)) (by rfl) (qc_e (qe_var (pv 0)) qc_nil) (apart_of (by decide))) qc_nil) (apart_of (by decide))))), fun ss κ h => ?_⟩
  obtain ⟨m, rfl, hl, k⟩ := h
  ((conv => whnf); repeat (refine And.intro (Eq.refl _) ?_; conv => whnf))
  refine ⟨m, rfl, ?_⟩
  ((conv => whnf); repeat (refine And.intro (Eq.refl _) ?_; conv => whnf))
  exact ⟨nms m, rfl, by rw [List.length_map]; exact hl, k⟩
end
end L2.Pu

set_option Elab.async false
set_option linter.all false
set_option maxRecDepth 100000
set_option maxHeartbeats 4000000
namespace L2.Pu
open PySem PySem.Spec PyProof.Rows
section
variable {P : Program} {w : World} {K : PySem.W.Frag} {mg : Str → Option Value} {base : Heap}
theorem okn_hand {f : Addr} {fd : FuncData} (F : Fun K "_law_hand" "_law_hand" s_L_hand f fd) (zLen : mg "len" = none) (zAbs : mg "abs" = none) (zInt : mg "int" = none) : FnOk P w K mg base CX0 1 f fd ["_law_script", "_law_k"] (spHandN K) := by
  refine F.ok sc_L_hand (fun vs H Q E h => ?_) (fun cdv A outer s H vs Q E hr h => ?_)
  · obtain ⟨a, ns, k, rfl, _⟩ := h
    rfl
  · obtain ⟨a, ns, k, rfl, hS, k0, k1, q⟩ := h
    refine ⟨_, pss_cons (ps_set (i := 2) sc_L_hand.nd rfl (.inl rfl) (pe_imp (Fu.tCell K) (pe_ifExp (pt_cmpR op_lt (pv 1) (pe_callB call_len_seq (by rfl) zLen PySem.boot_len (pa_cons (pv 0) pa_nil)) (nomark _)) (pe_ix ix_list (pv 0) (pv 1) (fun _ _ => rfl)) pe_int) ?cell))
      (pss_cons (ps_set (i := 3) sc_L_hand.nd rfl (.inl rfl) (pe_op op_mul (pe_op op_mod (pe_callB call_abs (by rfl) zAbs (by decide +kernel) (pa_cons (pv 2) pa_nil))
          (pe_op op_mulW (pe_op op_mulW (pe_op op_pow pe_int pe_int) (pe_op op_pow pe_int pe_int)) (pe_op op_pow pe_int pe_int)))
        (pe_callTy call_int1 (by rfl) zInt (by decide +kernel) (pa_cons (pe_cmpR op_ge (pe_callB call_abs (by rfl) zAbs (by decide +kernel) (pa_cons (pv 2) pa_nil)) (pe_op op_pow pe_int pe_int) (nomark _)) pa_nil))))
      (pss_one (ps_ret (pe_lst (pa_cons (pv 3) (pa_cons (pe_op op_mod (pe_op op_mul (pe_op op_add (pe_op op_add (pe_op op_mod (pv 2) pe_int) (pe_op op_mul pe_int (pv 1))) pe_int) pe_int) pe_int) (pa_cons pe_int pa_nil))))))), ?_⟩
    case cell =>
      rintro σ H1 Q1 ⟨a, ns, k, e0, e1, hs, h0, hq⟩
      refine ⟨_, e1, _, e0, a, _, rfl, .inl hs, _, _, rfl, rfl, _, rfl, ite2 (fun hc => ?_) (fun hc => hq 0)⟩
      have hlt : k < ((ns.map V.int).length : Int) := of_decide_eq_true hc
      obtain ⟨v, hv, hm⟩ := Fu.atI_in h0 hlt
      obtain ⟨c, _, rfl⟩ := List.mem_map.mp hm
      exact ⟨_, e0, _, e1, a, _, k, _, rfl, rfl, hs, hv, hq c⟩
    refine ⟨a, ns, k, rfl, rfl, hS, k0, fun cell => ?_⟩
    refine ⟨_, rfl, cell, rfl, _, _, rfl, rfl, ⟨by decide, by decide, by decide⟩, _, _, rfl, rfl, ⟨by decide, by decide, by decide⟩, _, _, rfl, rfl, wide_mul Fu.big_one Fu.big_one (by decide) (by decide) (by decide), _, _, rfl, rfl, ⟨by decide, by decide, by decide⟩,
      _, _, rfl, rfl, wide_mul Fu.big_two Fu.big_one (by decide) (by decide) (by decide), _, _, rfl, rfl, Fu.big_pos, _, rfl, cell, rfl, _, _, rfl, rfl, ⟨by decide, by decide, by decide⟩, _, _, rfl, rfl, .inr ⟨_, rfl, _, _, rfl, rfl, .inr ?_, ?_⟩⟩
    · exact Fu.bit_small _
    · refine ⟨_, rfl, _, rfl, _, _, rfl, rfl, (by show (0 : Int) < 2147483629; decide), _, rfl, _, _, rfl, rfl, .inl ⟨by decide, by decide⟩, _, _, rfl, rfl, _, _, rfl, rfl, _, _, rfl, rfl, .inr ⟨by decide, by decide⟩, _, _, rfl, rfl, (by show (0 : Int) < 2147483647; decide), (by show 3 ≤ sizeLine; decide), fun p np => ?_⟩
      exact q p _ _ np (Int.emod_nonneg _ (by decide)) (Int.emod_lt_of_pos _ (by decide))
theorem okn_take {f : Addr} {fd : FuncData} (F : Fun K "_law_take" "_law_take" s_L_take f fd) : FnOk P w K mg base CX0 1 f fd ["_law_hand_here", "_law_many"] spTakeN := by
  refine F.ok sc_L_take (fun vs H Q E h => ?_) (fun cdv A outer s H vs Q E hr h => ?_)
  · obtain ⟨p, g, a, c, m, rfl, _⟩ := h
    rfl
  · obtain ⟨p, g, a, c, m, rfl, m0, m1, e, a0, a1, c0, hn, q⟩ := h
    have c1 : c ≤ ((c.toNat : Nat) : Int) := by omega
    have hn' : c.toNat < 1000000000 := by omega
    have nt1 : ∀ xs : List V, NT H (L2.upd H p (.lst xs)) := fun xs b ps k => by
      by_cases hb : b = p
      · rw [hb, upd_same] at k; cases k
      · rw [upd_ne hb] at k; exact k
    refine ⟨_, pss_cons (ps_if (pt_cmpR op_gt (pe_ix ix_list (pv 0) pe_int (fun _ _ => rfl)) pe_int (nomark _))
        (pss_cons (ps_set (i := 2) sc_L_take.nd rfl (.inl rfl) (pe_op op_mod (pe_ix ix_list (pv 0) pe_int (fun _ _ => rfl)) (pv 1)))
          (pss_cons (ps_asg (pe_op op_fdivW (pe_ix ix_list (pv 0) pe_int (fun _ _ => rfl)) (pv 1)) (pg_sub (pv 0) pe_int set_list)) (pss_one (ps_ret (pv 2))))) pss_nil)
      (pss_cons (ps_asg (pe_op op_add (pe_ix ix_list (pv 0) pe_int (fun _ _ => rfl)) pe_int) (pg_sub (pv 0) pe_int set_list))
      (pss_cons (ps_set (i := 3) sc_L_take.nd rfl (.inl rfl) (pe_ix ix_list (pe_lst (pa_cons pe_int (pa_cons pe_int (pa_cons pe_int (pa_cons pe_int (pa_cons pe_int pa_nil)))))) (pe_op op_mod (pe_ix ix_list (pv 0) pe_int (fun _ _ => rfl)) pe_int) (fun _ _ => rfl)))
      (pss_cons (ps_set (i := 4) sc_L_take.nd rfl (.inl rfl) (pe_op op_mod (pe_op op_pow (pe_op op_add (pe_ix ix_list (pv 0) pe_int (fun _ _ => rfl)) (pe_op op_mul pe_int (pe_ix ix_list (pv 0) pe_int (fun _ _ => rfl)))) pe_int) (pv 3)))
      (pss_one (ps_ret (pe_op op_mod (pe_op op_fdiv (pe_op op_mod (pe_op op_mul (pv 4) (pe_op op_add (pe_op op_mod (pv 4) pe_int) (pe_ix ix_list (pv 0) pe_int (fun _ _ => rfl)))) (pv 3)) pe_int) (pv 1))))))), ?_⟩
    have i0 : ∀ x y u : V, atI [x, y, u] 0 = some x := fun _ _ _ => rfl
    have i1 : ∀ x y u : V, atI [x, y, u] 1 = some y := fun _ _ _ => rfl
    have i2 : ∀ x y u : V, atI [x, y, u] 2 = some u := fun _ _ _ => rfl
    refine ⟨_, rfl, p, _, _, _, rfl, rfl, SqL.of e, i0 _ _ _, _, _, rfl, rfl, _, rfl, ite2 (fun hc => ?_) (fun hc => ?_)⟩
    · refine ⟨_, rfl, p, _, _, _, rfl, rfl, SqL.of e, i0 _ _ _, _, rfl, _, _, rfl, rfl, m0, ?_⟩
      refine ⟨_, rfl, p, _, _, _, rfl, rfl, SqL.of e, i0 _ _ _, _, rfl, _, _, rfl, rfl, wide_div m0 (b := 60) (by omega) (by decide) (by decide), _, rfl, p, _, _, 0, rfl, rfl, e, rfl, ?_⟩
      refine ⟨_, rfl, q _ _ _ c (Int.emod_nonneg _ (by omega)) (Int.emod_lt_of_pos _ m0) (fun b u hb k => by rw [upd_ne hb]; exact k) (nt1 _) upd_same c0 (by omega)⟩
    · refine ⟨_, rfl, p, _, _, _, rfl, rfl, SqL.of e, i2 _ _ _, _, _, rfl, rfl, _, rfl, p, _, _, 2, rfl, rfl, e, rfl, ?_⟩
      obtain ⟨pr, hpr, pr0, pr1⟩ := Fu.prime_at (c + 1) (by omega)
      refine ⟨(by show 5 ≤ sizeLine; decide), fun r nr => ?_⟩
      have nrp : p ≠ r := ne_of_none (upd_same (H := H) (a := p) (o := .lst [.int g, .int a, .int (c + 1)])) nr
      have e2 : L2.upd (L2.upd H p (.lst [.int g, .int a, .int (c + 1)])) r (.lst [.int 2147483647, .int 2147483629, .int 2147483587, .int 2147483579, .int 2147483563]) p = some (.lst [.int g, .int a, .int (c + 1)]) := by
        rw [upd_ne nrp, upd_same]
      refine ⟨_, rfl, p, _, _, _, rfl, rfl, SqL.of e2, i2 _ _ _, _, _, rfl, rfl, (by show (0 : Int) < 5; decide), r, _, _, _, rfl, rfl, SqL.of upd_same, hpr, ?_⟩
      refine ⟨_, rfl, p, _, _, _, rfl, rfl, SqL.of e2, i1 _ _ _, _, rfl, p, _, _, _, rfl, rfl, SqL.of e2, i2 _ _ _, _, _, rfl, rfl, .inl ⟨by decide, by decide⟩, _, _, rfl, rfl, _, _, rfl, rfl, ⟨by decide, by decide, Fu.small_pow a0 a1 c0 c1 hn'⟩, _, rfl, _, _, rfl, rfl, pr0, ?_⟩
      have d0 : 0 ≤ (a + 7919 * (c + 1)) ^ (3 : Int).toNat % pr := Int.emod_nonneg _ (by omega)
      have d1 : (a + 7919 * (c + 1)) ^ (3 : Int).toNat % pr < pr := Int.emod_lt_of_pos _ pr0
      refine ⟨_, rfl, _, rfl, _, _, rfl, rfl, (by show (0 : Int) < 1009; decide), _, rfl, p, _, _, _, rfl, rfl, SqL.of e2, i2 _ _ _, _, _, rfl, rfl, _, _, rfl, rfl, .inl ⟨by omega, by omega⟩, _, rfl, _, _, rfl, rfl, pr0, _, _, rfl, rfl, ⟨by decide, by decide⟩, _, rfl, _, _, rfl, rfl, m0, ?_⟩
      refine q _ _ g (c + 1) (Int.emod_nonneg _ (by omega)) (Int.emod_lt_of_pos _ m0) (fun b u hb k => ?_) (fun b ps k => ?_) e2 (by omega) (by omega)
      · rw [upd_ne (ne_of_none (by rw [upd_ne hb]; exact k) nr), upd_ne hb]; exact k
      · by_cases hb : b = r
        · rw [hb, upd_same] at k; cases k
        · rw [upd_ne hb] at k; exact nt1 _ b ps k
end
end L2.Pu
namespace L2.Pu
open PySem PySem.Spec PyProof.Rows
section
variable {P : Program} {w : World} {K : PySem.W.Frag} {mg : Str → Option Value} {base : Heap} {τ : Tb}
theorem pf_L_of {f : Addr} {fd : FuncData} (F : Fun K "_law_of" "_law_of" s_L_of f fd) (hm : mg "_law_of" = some (.ref f)) (hk : PySem.W.keepIn K (.ref f) = true) (hb : Binds K fd p_L_of []) (z_len : mg "len" = none) (G_L_take : PFn τ P w K mg base 1 "_law_take" p_L_take spTake) : PFn τ P w K mg base 2 "_law_of" p_L_of spOf := by
  refine fn_ofC F hm hk hb sc_L_of (fun ss κ h => by obtain ⟨n, ds, rfl, _⟩ := h; rfl) fun cdv A outer s H E code gd hr => ?_
  refine ⟨_, (qss_one (qs_ret (qe_ix (qe_var (pv 1)) (qe_call G_L_take gd (hr.mono (by omega)) (by rfl) (qc_r (pv 0) (qc_e (qe_len (by rfl) z_len (qb_e (qe_var (pv 1)) qb_nil)) qc_nil)) (apart_of (by decide)))))), fun ss κ h => ?_⟩
  obtain ⟨n, ds, rfl, h0, h1, k⟩ := h
  ((conv => whnf); repeat (refine And.intro (Eq.refl _) ?_; conv => whnf))
  have l0 : 0 < ds.length := List.length_pos_iff.mpr h0
  refine ⟨by omega, by omega, fun x x0 x1 => ?_⟩
  obtain ⟨d, hd, e⟩ := atI_mem x0 x1
  ((conv => whnf); repeat (refine And.intro (Eq.refl _) ?_; conv => whnf))
  rw [e]; ((conv => whnf); repeat (refine And.intro (Eq.refl _) ?_; conv => whnf))
  exact k d hd
theorem pf_L_some {f : Addr} {fd : FuncData} (F : Fun K "_law_some" "_law_some" s_L_some f fd) (hm : mg "_law_some" = some (.ref f)) (hk : PySem.W.keepIn K (.ref f) = true) (hb : Binds K fd p_L_some []) (z_tuple : mg "tuple" = none) (G_L_take : PFn τ P w K mg base 1 "_law_take" p_L_take spTake) : PFn τ P w K mg base 2 "_law_some" p_L_some spSome := by
  refine fn_ofC F hm hk hb sc_L_some (fun ss κ h => by obtain ⟨n, xs, o, rfl, _⟩ := h; rfl) fun cdv A outer s H E code gd hr => ?_
  refine ⟨_, (qss_one (qs_ret (qe_tuple (by rfl) z_tuple (qb_e (qe_of (qf_lc (own := [("_law_thing", 3)]) rfl sc_L_some.nd (qi_any (qe_var (pv 1))) (blkOk_by (N := n_L_some) (sc := defScope s_L_some) (by decide +kernel)) (fun _ _ _ _ _ => (qv_name (i := 3) sc_L_some.nd rfl (.inl rfl) (by decide))) (fun _ _ _ _ _ => (qts_one (qt_eq (ru64 hr) (qe_call G_L_take gd (hr.mono (by omega)) (by rfl) (qc_r (pv 0) (qc_e (qe_var (pv 2)) qc_nil)) (apart_of (by decide))) qe_int))) (fun _ _ _ _ _ => (qe_var (pv 3))))) qb_nil)))), fun ss κ h => ?_⟩
  obtain ⟨n, xs, often, rfl, hn, o0, o1, k⟩ := h
  ((conv => whnf); repeat (refine And.intro (Eq.refl _) ?_; conv => whnf))
  refine lcL_by (fun ds acc ρ => ∃ (done rest kept : List Str) (n' : Nat), xs = done ++ rest ∧ ds = rest.map PyData.str ∧ acc = kept.map PyData.str ∧ kept.Sublist done ∧ n - done.length ≤ n' ∧ ρ = [.own true (.hand n'), .val (strsL xs), .val (.int often), .un]) ?_ ?_ _ _ _ ⟨[], xs, [], n, rfl, rfl, rfl, List.Sublist.refl _, Nat.sub_le _ _, rfl⟩
  · rintro acc ρ ⟨done, rest, kept, n', e, hd, rfl, sub, hn', rfl⟩
    cases rest with
    | cons => cases hd
    | nil =>
      rw [List.append_nil] at e; subst e
      exact k kept n' sub hn'
  · rintro d ds acc ρ ⟨done, rest, kept, n', e, hd, rfl, sub, hn', rfl⟩
    cases rest with
    | nil => cases hd
    | cons x rest =>
      cases hd
      have : 0 < n' := by rw [e, List.length_append, List.length_cons] at hn; omega
      obtain ⟨n', rfl⟩ : ∃ z, n' = z + 1 := ⟨n' - 1, by omega⟩
      ((conv => whnf); repeat (refine And.intro (Eq.refl _) ?_; conv => whnf))
      refine ⟨o0, o1, fun y y0 y1 => ?_⟩
      have nx : n - (done ++ [x]).length ≤ n' := by rw [List.length_append, List.length_singleton]; omega
      have ee : xs = (done ++ [x]) ++ rest := by rw [e, List.append_assoc]; rfl
      by_cases h0 : y = 0
      · subst h0
        ((conv => whnf); repeat (refine And.intro (Eq.refl _) ?_; conv => whnf))
        exact ⟨done ++ [x], rest, kept ++ [x], n', ee, rfl, by rw [List.map_append]; rfl, sub.append (List.Sublist.refl _), nx, rfl⟩
      · ((conv => whnf); repeat (refine And.intro (Eq.refl _) ?_; conv => whnf))
        rw [decide_eq_false h0]; ((conv => whnf); repeat (refine And.intro (Eq.refl _) ?_; conv => whnf))
        exact ⟨done ++ [x], rest, kept, n', ee, rfl, rfl, sub.trans (List.sublist_append_left _ _), nx, rfl⟩
end
end L2.Pu
namespace L2.Pu
open PySem PySem.Spec PyProof.Rows
section
variable {P : Program} {w : World} {K : PySem.W.Frag} {mg : Str → Option Value} {base : Heap} {τ : Tb}
theorem pf_L_names {f : Addr} {fd : FuncData} (F : Fun K "_law_names" "_law_names" s_L_names f fd) (hm : mg "_law_names" = some (.ref f)) (hk : PySem.W.keepIn K (.ref f) = true) (hb : Binds K fd p_L_names []) (z_len : mg "len" = none) (G_L_take : PFn τ P w K mg base 1 "_law_take" p_L_take spTake) : PFn τ P w K mg base 2 "_law_names" p_L_names spNames := by
  refine fn_ofC F hm hk hb sc_L_names (fun ss κ h => by obtain ⟨n, c, rfl, _⟩ := h; rfl) fun cdv A outer s H E code gd hr => ?_
  refine ⟨_, (qss_cons (qs_setO (i := 2) sc_L_names.nd rfl (.inl rfl) (qf_list (qa_cons qe_str (qa_cons qe_str (qa_cons qe_str (qa_cons qe_str (qa_cons qe_str (qa_cons qe_str (qa_cons qe_str (qa_cons qe_str (qa_cons qe_str (qa_cons qe_str qa_nil))))))))))))
      (qss_cons (qs_while PassesOwn.never (qt_gt (qe_len (by rfl) z_len (qb_b (pv 2) qb_nil)) (qe_var (pv 1))) (qss_one (qs_expr (qe_popAt (pv 2) (qa_cons (qe_call G_L_take gd (hr.mono (by omega)) (by rfl) (qc_r (pv 0) (qc_e (qe_len (by rfl) z_len (qb_b (pv 2) qb_nil)) qc_nil)) (apart_of (by decide))) qa_nil)))))
      (qss_one (qs_ret (qe_frz (pv 2)))))), fun ss κ h => ?_⟩
  obtain ⟨n, c, rfl, hn, hc, k⟩ := h
  ((conv => whnf); repeat (refine And.intro (Eq.refl _) ?_; conv => whnf))
  refine ⟨fun m ρ => ∃ (ys : List Str) (n' : Nat), ys.Sublist ten ∧ c ≤ ys.length ∧ n - (10 - ys.length) ≤ n' ∧ m = ys.length ∧ ρ = [.own true (.hand n'), .val (.int c), .own false (.lst (ys.map PyData.str))], ⟨_, ten, n, List.Sublist.refl _, hc, Nat.sub_le _ _, rfl, rfl⟩, ?_⟩
  rintro m ρ ⟨ys, n', sub, lc, ln, rfl, rfl⟩
  have l10 : ys.length ≤ 10 := sub.length_le
  by_cases hgt : (ys.length : Int) > c
  · obtain ⟨n', rfl⟩ : ∃ z, n' = z + 1 := ⟨n' - 1, by omega⟩
    ((conv => whnf); repeat (refine And.intro (Eq.refl _) ?_; conv => whnf))
    rw [List.length_map]; dsimp only; rw [decide_eq_true hgt]; ((conv => whnf); repeat (refine And.intro (Eq.refl _) ?_; conv => whnf))
    refine ⟨fun ρ => ∃ m', m' < ys.length ∧ ∃ (ys : List Str) (n' : Nat), ys.Sublist ten ∧ c ≤ ys.length ∧ n - (10 - ys.length) ≤ n' ∧ m' = ys.length ∧ ρ = [.own true (.hand n'), .val (.int c), .own false (.lst (ys.map PyData.str))], fun ρ' h => h, ?_⟩
    ((conv => whnf); repeat (refine And.intro (Eq.refl _) ?_; conv => whnf))
    rw [List.length_map]
    refine ⟨by omega, by omega, fun x x0 x1 => ?_⟩
    ((conv => whnf); repeat (refine And.intro (Eq.refl _) ?_; conv => whnf))
    refine ⟨⟨x0, by omega⟩, ?_⟩
    have lt : x.toNat < ys.length := by omega
    rw [List.getElem?_map, List.getElem?_eq_getElem lt]
    refine ⟨_, ?_, ys.eraseIdx x.toNat, n', (List.eraseIdx_sublist _ _).trans sub, ?_, ?_, rfl, ?_⟩
    · rw [List.length_eraseIdx_of_lt lt]; omega
    · rw [List.length_eraseIdx_of_lt lt]; omega
    · rw [List.length_eraseIdx_of_lt lt]; omega
    · rw [← map_erase]; rfl
  · ((conv => whnf); repeat (refine And.intro (Eq.refl _) ?_; conv => whnf))
    rw [List.length_map]; dsimp only; rw [decide_eq_false hgt]; ((conv => whnf); repeat (refine And.intro (Eq.refl _) ?_; conv => whnf))
    exact k ys n' sub (by omega) (by omega)
end
end L2.Pu

set_option Elab.async false
set_option linter.all false
set_option maxRecDepth 100000
set_option maxHeartbeats 4000000
namespace L2.Pu
open PySem PySem.Spec PyProof.Rows
section
variable {P : Program} {w : World} {K : PySem.W.Frag} {mg : Str → Option Value} {base : Heap} {τ : Tb}
theorem pf_L_manifest {f : Addr} {fd : FuncData} (F : Fun K "_law_manifest" "_law_manifest" s_L_manifest f fd) (hm : mg "_law_manifest" = some (.ref f)) (hk : PySem.W.keepIn K (.ref f) = true) (hb : Binds K fd p_L_manifest []) (z_tuple : mg "tuple" = none) (G_L_names : PFn τ P w K mg base 2 "_law_names" p_L_names spNames) (G_L_of : PFn τ P w K mg base 2 "_law_of" p_L_of spOf) (G_L_some : PFn τ P w K mg base 2 "_law_some" p_L_some spSome) : PFn τ P w K mg base 3 "_law_manifest" p_L_manifest spManifest := by
  refine fn_ofC F hm hk hb sc_L_manifest (fun ss κ h => by obtain ⟨n, c, rfl, _⟩ := h; rfl) fun cdv A outer s H E code gd hr => ?_
  refine ⟨_, (qss_cons (qs_par3 (i := 2) (j := 3) (l := 4) rfl sc_L_manifest.nd rfl rfl rfl (by decide) (by decide) (by decide) rfl rfl rfl (qm_e (qe_call G_L_names gd (hr.mono (by omega)) (by rfl) (qc_r (pv 0) (qc_e (qe_var (pv 1)) qc_nil)) (apart_of (by decide))) (qm_e (qe_call G_L_of gd (hr.mono (by omega)) (by rfl) (qc_r (pv 0) (qc_e (qe_list (qa_cons qe_int (qa_cons qe_int (qa_cons qe_int (qa_cons qe_int qa_nil))))) qc_nil)) (apart_of (by decide))) (qm_f (qf_list qa_nil) qm_nil))) rfl)
      (qss_cons (qs_for PassesOwn.never rfl (qi_any (qe_var (pv 2))) (qg_name (i := 5) sc_L_manifest.nd rfl (.inr rfl)) (qss_one (qs_expr (qe_append (pv 4) (qa_cons (qe_tup (qa_cons (qe_var (pv 5)) (qa_cons (qe_call G_L_some gd (hr.mono (by omega)) (by rfl) (qc_r (pv 0) (qc_e (qe_of (qf_lc (own := [("_law_other", 6)]) rfl sc_L_manifest.nd (qi_any (qe_var (pv 2))) (blkOk_by (N := n_L_manifest) (sc := defScope s_L_manifest) (by decide +kernel)) (fun _ _ _ _ _ => (qv_name (i := 6) sc_L_manifest.nd rfl (.inl rfl) (by decide))) (fun _ _ _ _ _ => (qts_one (qt_ne (ru64 hr) (qe_var (pv 6)) (qe_var (pv 5))))) (fun _ _ _ _ _ => (qe_var (pv 6))))) (qc_e (qe_var (pv 3)) qc_nil))) (apart_of (by decide))) qa_nil))) qa_nil)))))
      (qss_one (qs_ret (qe_tuple (by rfl) z_tuple (qb_b (pv 4) qb_nil)))))), fun ss κ h => ?_⟩
  obtain ⟨n, c, rfl, hn, hc, k⟩ := h
  ((conv => whnf); repeat (refine And.intro (Eq.refl _) ?_; conv => whnf))
  refine ⟨n, c, rfl, by omega, hc, fun ys n1 sub lys hn1 => ?_⟩
  obtain ⟨n1, rfl⟩ : ∃ z, n1 = z + 1 := ⟨n1 - 1, by omega⟩
  ((conv => whnf); repeat (refine And.intro (Eq.refl _) ?_; conv => whnf))
  refine ⟨n1, _, rfl, by simp, by decide, fun d hd => ?_⟩
  obtain ⟨o, rfl, o0, o1⟩ : ∃ o : Int, d = .int o ∧ 0 < o ∧ o < 1000000000 := by
    simp only [List.mem_cons, List.not_mem_nil, or_false] at hd
    rcases hd with rfl | rfl | rfl | rfl
    · exact ⟨3, rfl, by decide, by decide⟩
    · exact ⟨6, rfl, by decide, by decide⟩
    · exact ⟨12, rfl, by decide, by decide⟩
    · exact ⟨50, rfl, by decide, by decide⟩
  ((conv => whnf); repeat (refine And.intro (Eq.refl _) ?_; conv => whnf))
  refine forL_by (fun ds ρ => ∃ (done rest : List Str) (rows : Man) (n' : Nat) (s5 : Slot), ys = done ++ rest ∧ ds = rest.map PyData.str ∧ nms rows = done ∧ (∀ r ∈ rows, r.2.Sublist ys) ∧ n - 20 - 10 * done.length ≤ n' ∧
    ρ = [.own true (.hand n'), .val (.int c), .val (strsL ys), .val (.int o), .own false (.lst (rows.map rowD)), s5, .un]) ?_ ?_ _ _ ⟨[], ys, [], n1, .un, rfl, rfl, rfl, (fun _ z => nomatch z), by simp; omega, rfl⟩
  · rintro ρ ⟨done, rest, rows, n', s5, e, hd, hr, hs, hn', rfl⟩
    cases rest with
    | cons => cases hd
    | nil =>
      rw [List.append_nil] at e; subst e
      have lr : rows.length = c := by rw [← lys, ← hr, List.length_map]
      ((conv => whnf); repeat (refine And.intro (Eq.refl _) ?_; conv => whnf))
      refine k rows n' ⟨by rw [hr]; exact sub, fun r h => by rw [hr]; exact hs r h⟩ lr ?_
      omega
  · rintro d ds ρ ⟨done, rest, rows, n', s5, e, hd, hr', hs, hn', rfl⟩
    cases rest with
    | nil => cases hd
    | cons x rest =>
      cases hd
      have ll : done.length + 1 + rest.length = c := by rw [← lys, e, List.length_append, List.length_cons]; omega
      ((conv => whnf); repeat (refine And.intro (Eq.refl _) ?_; conv => whnf))
      refine lcL_pure (i := 6) (ρ := [.own true (.hand n'), .val (.int c), .val (strsL ys), .val (.int o), .own false (.lst (rows.map rowD)), .val (.str x), .un]) (othD x) id (fun d => rfl) (ys.map PyData.str) [] (fun d hd k => ?_) (fun d hd _ k => ?_) ?_
      · obtain ⟨y, _, rfl⟩ := List.mem_map.mp hd
        exact fun h => h
      · obtain ⟨y, _, rfl⟩ := List.mem_map.mp hd
        exact fun h => h
      · rw [List.nil_append, oth_filter]
        have lf : (ys.filter fun o => !decide (o = x)).length ≤ 10 := Nat.le_trans (List.length_filter_le _ _) (by omega)
        ((conv => whnf); repeat (refine And.intro (Eq.refl _) ?_; conv => whnf))
        refine ⟨n', _, o, rfl, by omega, o0, o1, fun zs n2 hzs hn2 => ?_⟩
        ((conv => whnf); repeat (refine And.intro (Eq.refl _) ?_; conv => whnf))
        refine ⟨?_, done ++ [x], rest, rows ++ [(x, zs)], n2, .val (.str x), by rw [e, List.append_assoc]; rfl, rfl, by rw [nms, List.map_append]; rw [nms] at hr'; rw [hr']; rfl, ?_, ?_, ?_⟩
        · rw [List.length_map]
          have : rows.length = done.length := by rw [← hr', List.length_map]
          omega
        · intro r h
          rcases List.mem_append.mp h with h | h
          · exact hs r h
          · cases List.mem_singleton.mp h; exact hzs.trans List.filter_sublist
        · rw [List.length_append, List.length_singleton]; omega
        · rw [List.map_append]; rfl
end
end L2.Pu

set_option Elab.async false
set_option linter.all false
set_option maxRecDepth 100000
set_option maxHeartbeats 4000000
namespace L2.Pu
open PySem PySem.Spec PyProof.Rows
section
variable {P : Program} {w : World} {K : PySem.W.Frag} {mg : Str → Option Value} {base : Heap} {τ : Tb}
theorem pf_is_name {f : Addr} {fd : FuncData} (F : Fun K "is_name" "is_name" s_is_name f fd) (hm : mg "is_name" = some (.ref f)) (hk : PySem.W.keepIn K (.ref f) = true) (hb : Binds K fd p_is_name []) (z_all : mg "all" = none) (z_isinstance : mg "isinstance" = none) (z_len : mg "len" = none) (z_str : mg "str" = none) {t_LETTERS : Tok} (m_LETTERS : mg "LETTERS" = some (.str "abcdefghijklmnopqrstuvwxyz" t_LETTERS)) {t_LONGEST_NAME : Tok} (m_LONGEST_NAME : mg "LONGEST_NAME" = some (.int 8 t_LONGEST_NAME)) : PFn τ P w K mg base 1 "is_name" p_is_name spIsName := by
  refine fn_ofC F hm hk hb sc_is_name (fun ss κ h => by obtain ⟨m, rfl, _⟩ := h; rfl) fun cdv A outer s H E code gd hr => ?_
  refine ⟨_, (qss_cons (qs_if (qw_or (qt_not (qt_val (qe_isi (T := "str") (.inl rfl) (by rfl) z_isinstance (qe_var (pv 0)) (pe_bltn (v := .ty "str") (u := .type "str") (by rfl) z_str (by decide +kernel) rfl)))) (qw_or1 (qt_not (qt_chainLL qe_int (qe_len (by rfl) z_len (qb_e (qe_var (pv 0)) qb_nil)) (qe_glob (x := "") (pe_glob (v := .int 8) (by rfl) m_LONGEST_NAME ⟨_, rfl⟩) (fun _ => .int _)))))).pt (qss_one (qs_ret qe_bl)) qss_nil)
      (qss_one (qs_ret (qe_all rfl (by rfl) z_all (qb_e (qe_of (qf_lc (own := [("letter", 1)]) rfl sc_is_name.nd (qi_any (qe_var (pv 0))) (blkOk_by (N := n_is_name) (sc := defScope s_is_name) (by decide +kernel)) (fun _ _ _ _ _ => (qv_name (i := 1) sc_is_name.nd rfl (.inl rfl) (by decide))) (fun _ _ _ _ _ => qts_nil) (fun _ _ _ _ _ => (qe_in (ru65 hr) (qe_var (pv 1)) (qe_glob (x := "") (pe_glob (v := .str "abcdefghijklmnopqrstuvwxyz") (by rfl) m_LETTERS ⟨_, rfl⟩) (fun _ => .str _)))))) qb_nil))))), fun ss κ h => ?_⟩
  obtain ⟨d, rfl, sn, k⟩ := h
  cases d with
  | str x =>
    have few := sn.few x rfl
    ((conv => whnf); repeat (refine And.intro (Eq.refl _) ?_; conv => whnf))
    refine ⟨few, ?_⟩
    ((conv => whnf); repeat (refine And.intro (Eq.refl _) ?_; conv => whnf))
    by_cases h1 : (1 : Int) ≤ (x.length : Int)
    · try dsimp only
      rw [decide_eq_true h1]
      ((conv => whnf); repeat (refine And.intro (Eq.refl _) ?_; conv => whnf))
      by_cases h2 : (x.length : Int) ≤ 8
      · try dsimp only
        rw [decide_eq_true h2]
        ((conv => whnf); repeat (refine And.intro (Eq.refl _) ?_; conv => whnf))
        refine ⟨few, ?_⟩
        refine lcL_map (i := 1) (ρ := [.val (.str x), .un]) (fun d => .bool (signB d)) (fun d => rfl) (fun d hd k => ?_) ?_
        · unfold signs at hd
          obtain ⟨c, _, rfl⟩ := List.mem_map.mp hd
          exact fun h => h
        · rw [signs_map]
          ((conv => whnf); repeat (refine And.intro (Eq.refl _) ?_; conv => whnf))
          refine ⟨_, rfl, ?_⟩
          have e : nameB (.str x) = (x.cps.toList.map fun c => decide (c ∈ lettersS.cps.toList)).all id := by
            show nameS x = _
            unfold nameS
            rw [decide_eq_true (by omega : 1 ≤ x.length), decide_eq_true (by omega : x.length ≤ 8), List.all_map]; rfl
          rw [e] at k
          exact k
      · try dsimp only
        rw [decide_eq_false h2]
        ((conv => whnf); repeat (refine And.intro (Eq.refl _) ?_; conv => whnf))
        have e : nameB (.str x) = false := by
          show nameS x = _
          unfold nameS
          rw [decide_eq_false (by omega : ¬ x.length ≤ 8), Bool.and_false, Bool.false_and]
        rw [e] at k
        exact k
    · try dsimp only
      rw [decide_eq_false h1]
      ((conv => whnf); repeat (refine And.intro (Eq.refl _) ?_; conv => whnf))
      have e : nameB (.str x) = false := by
        show nameS x = _
        unfold nameS
        rw [decide_eq_false (by omega : ¬ 1 ≤ x.length)]; rfl
      rw [e] at k
      exact k
  | dict es =>
    cases es with
    | nil => ((conv => whnf); repeat (refine And.intro (Eq.refl _) ?_; conv => whnf)); exact k
    | cons e r =>
      obtain ⟨a, b⟩ := e
      cases a with
      | tuple t => exact absurd rfl (sn.nd t b r)
      | _ => ((conv => whnf); repeat (refine And.intro (Eq.refl _) ?_; conv => whnf)); exact k
  | _ => ((conv => whnf); repeat (refine And.intro (Eq.refl _) ?_; conv => whnf)); exact k
open Classical in
theorem pf_are_ascending_names {f : Addr} {fd : FuncData} (F : Fun K "are_ascending_names" "are_ascending_names" s_are_ascending_names f fd) (hm : mg "are_ascending_names" = some (.ref f)) (hk : PySem.W.keepIn K (.ref f) = true) (hb : Binds K fd p_are_ascending_names []) (z_all : mg "all" = none) (z_isinstance : mg "isinstance" = none) (z_len : mg "len" = none) (z_range : mg "range" = none) (z_tuple : mg "tuple" = none) (G_is_name : PFn τ P w K mg base 1 "is_name" p_is_name spIsName) : PFn τ P w K mg base 2 "are_ascending_names" p_are_ascending_names spAsc := by
  refine fn_ofC F hm hk hb sc_are_ascending_names (fun ss κ h => by obtain ⟨m, rfl, _⟩ := h; rfl) fun cdv A outer s H E code gd hr => ?_
  refine ⟨_, (qss_cons (qs_if (qw_or (qt_not (qt_val (qe_isi (T := "tuple") (.inr (.inl rfl)) (by rfl) z_isinstance (qe_var (pv 0)) (pe_bltn (v := .ty "tuple") (u := .type "tuple") (by rfl) z_tuple (by decide +kernel) rfl)))) (qw_or1 (qt_not (qt_val (qe_all rfl (by rfl) z_all (qb_e (qe_of (qf_lc (own := [("name", 1)]) rfl sc_are_ascending_names.nd (qi_any (qe_var (pv 0))) (blkOk_by (N := n_are_ascending_names) (sc := defScope s_are_ascending_names) (by decide +kernel)) (fun _ _ _ _ _ => (qv_name (i := 1) sc_are_ascending_names.nd rfl (.inl rfl) (by decide))) (fun _ _ _ _ _ => qts_nil) (fun _ _ _ _ _ => (qe_call G_is_name gd (hr.mono (by omega)) (by rfl) (qc_e (qe_var (pv 1)) qc_nil) (apart_of (by decide)))))) qb_nil)))))).pt (qss_one (qs_ret qe_bl)) qss_nil)
      (qss_one (qs_ret (qe_all rfl (by rfl) z_all (qb_e (qe_of (qf_lc (own := [("at", 2)]) rfl sc_are_ascending_names.nd (qi_range1 (by rfl) z_range (qa_cons (qe_sub (qe_len (by rfl) z_len (qb_e (qe_var (pv 0)) qb_nil)) qe_int) qa_nil)) (blkOk_by (N := n_are_ascending_names) (sc := defScope s_are_ascending_names) (by decide +kernel)) (fun _ _ _ _ _ => (qv_name (i := 2) sc_are_ascending_names.nd rfl (.inl rfl) (by decide))) (fun _ _ _ _ _ => qts_nil) (fun _ _ _ _ _ => (qe_lt (qe_ix (qe_var (pv 0)) (qe_var (pv 2))) (qe_ix (qe_var (pv 0)) (qe_add (qe_var (pv 2)) qe_int)))))) qb_nil))))), fun ss κ h => ?_⟩
  obtain ⟨d, rfl, sn, k⟩ := h
  cases d with
  | tuple ds =>
    obtain ⟨sall, slen⟩ := sn.all ds rfl
    ((conv => whnf); repeat (refine And.intro (Eq.refl _) ?_; conv => whnf))
    refine lcL_map (i := 1) (ρ := [.val (.tuple ds), .un, .un]) (fun d => .bool (nameB d)) (fun d => rfl) (fun d hd k => ?_) ?_
    · intro h
      ((conv => whnf); repeat (refine And.intro (Eq.refl _) ?_; conv => whnf))
      exact ⟨d, rfl, sall d hd, h⟩
    · ((conv => whnf); repeat (refine And.intro (Eq.refl _) ?_; conv => whnf))
      refine ⟨ds.map nameB, by rw [List.map_map]; rfl, ?_⟩
      ((conv => whnf); repeat (refine And.intro (Eq.refl _) ?_; conv => whnf))
      by_cases ha : ∀ d ∈ ds, nameB d = true
      · have ea : (ds.map nameB).all id = true := by
          rw [List.all_map, List.all_eq_true]; exact ha
        try dsimp only
        rw [ea]
        obtain ⟨r, rfl, hr'⟩ := strs_of_names ha
        rw [List.length_map] at slen
        ((conv => whnf); repeat (refine And.intro (Eq.refl _) ?_; conv => whnf))
        refine ⟨by rw [List.length_map]; omega, by rw [List.length_map]; omega, ?_⟩
        have en : ((((r.map PyData.str).length : Nat) : Int) - 1).toNat = r.length - 1 := by rw [List.length_map]; omega
        rw [en]
        refine lcL_map (i := 2) (ρ := [.val (.tuple (r.map PyData.str)), .un, .un]) (upD r) (fun d => rfl) (fun d hd k => ?_) ?_
        · unfold rngD at hd
          obtain ⟨i, hi, rfl⟩ := List.mem_map.mp hd
          rw [List.mem_range] at hi
          intro h
          have h1 : i + 1 < r.length := by omega
          have e1 : atI (r.map PyData.str) (0 + (i : Int)) = some (.str r[i]) := by rw [Int.zero_add, atI_nat (by rw [List.length_map]; omega), List.getElem_map]
          have e2 : atI (r.map PyData.str) (0 + (i : Int) + 1) = some (.str r[i + 1]) := by rw [Int.zero_add, show ((i : Int) + 1) = ((i + 1 : Nat) : Int) by omega, atI_nat (by rw [List.length_map]; omega), List.getElem_map]
          ((conv => whnf); repeat (refine And.intro (Eq.refl _) ?_; conv => whnf))
          rw [e1]
          ((conv => whnf); repeat (refine And.intro (Eq.refl _) ?_; conv => whnf))
          rw [e2]
          ((conv => whnf); repeat (refine And.intro (Eq.refl _) ?_; conv => whnf))
          have e3 : upB r (0 + (i : Int)).toNat = decide (r[i].cps.toList < r[i + 1].cps.toList) := by
            rw [Int.zero_add, Int.toNat_natCast]
            unfold upB
            rw [List.getElem?_eq_getElem (by omega), List.getElem?_eq_getElem h1]
          rw [← e3]
          exact h
        · rw [up_map]
          ((conv => whnf); repeat (refine And.intro (Eq.refl _) ?_; conv => whnf))
          refine ⟨_, rfl, ?_⟩
          have e : ascB (.tuple (r.map PyData.str)) = ((List.range (r.length - 1)).map (upB r)).all id := by
            rw [up_all]
            unfold ascB
            refine decide_eq_decide.mpr ⟨fun ⟨r', e, _, h⟩ => ?_, fun h => ⟨r, rfl, hr', h⟩⟩
            rw [tupS_inj (show tupS r = tupS r' from e)]; exact h
          rw [e] at k
          exact k
      · have ea : (ds.map nameB).all id = false := by
          rw [Bool.eq_false_iff]; intro z; rw [List.all_map, List.all_eq_true] at z; exact ha z
        try dsimp only
        rw [ea]
        ((conv => whnf); repeat (refine And.intro (Eq.refl _) ?_; conv => whnf))
        have e : ascB (.tuple ds) = false := by
          unfold ascB
          refine decide_eq_false ?_
          rintro ⟨r, e, h, _⟩
          refine ha fun d hd => ?_
          cases e
          obtain ⟨x, hx, rfl⟩ := List.mem_map.mp hd
          exact h x hx
        rw [e] at k
        exact k
  | dict es =>
    rw [ascB_not fun r e => by unfold tupS at e; cases e] at k
    cases es with
    | nil => ((conv => whnf); repeat (refine And.intro (Eq.refl _) ?_; conv => whnf)); exact k
    | cons e r =>
      obtain ⟨a, b⟩ := e
      cases a with
      | tuple t => exact absurd rfl (sn.one.nd t b r)
      | _ => ((conv => whnf); repeat (refine And.intro (Eq.refl _) ?_; conv => whnf)); exact k
  | _ =>
    rw [ascB_not fun r e => by unfold tupS at e; cases e] at k
    ((conv => whnf); repeat (refine And.intro (Eq.refl _) ?_; conv => whnf)); exact k
end
end L2.Pu

set_option Elab.async false
set_option linter.all false
set_option maxRecDepth 100000
set_option maxHeartbeats 4000000
namespace L2.Pu
open PySem PySem.Spec PyProof.Rows
section
variable {P : Program} {w : World} {K : PySem.W.Frag} {mg : Str → Option Value} {base : Heap} {τ : Tb}
open Classical in
theorem pf_is_request {f : Addr} {fd : FuncData} (F : Fun K "is_request" "is_request" s_is_request f fd) (hm : mg "is_request" = some (.ref f)) (hk : PySem.W.keepIn K (.ref f) = true) (hb : Binds K fd p_is_request []) (z_all : mg "all" = none) (G_features_in : PFn τ P w K mg base 1 "features_in" p_features_in spFeaturesIn) (G_are_ascending_names : PFn τ P w K mg base 2 "are_ascending_names" p_are_ascending_names spAsc) : PFn τ P w K mg base 3 "is_request" p_is_request spIsReq := by
  refine fn_ofC F hm hk hb sc_is_request (fun ss κ h => by obtain ⟨m, d, rfl, _⟩ := h; rfl) fun cdv A outer s H E code gd hr => ?_
  refine ⟨_, (qss_cons (qs_if (qt_not (qt_val (qe_call G_are_ascending_names gd (hr.mono (by omega)) (by rfl) (qc_e (qe_var (pv 1)) qc_nil) (apart_of (by decide))))) (qss_one (qs_ret qe_bl)) qss_nil)
      (qss_cons (qs_set (i := 2) sc_is_request.nd rfl (.inr rfl) (qe_call G_features_in gd (hr.mono (by omega)) (by rfl) (qc_e (qe_var (pv 0)) qc_nil) (apart_of (by decide))))
      (qss_one (qs_ret (qe_all rfl (by rfl) z_all (qb_e (qe_of (qf_lc (own := [("name", 3)]) rfl sc_is_request.nd (qi_any (qe_var (pv 1))) (blkOk_by (N := n_is_request) (sc := defScope s_is_request) (by decide +kernel)) (fun _ _ _ _ _ => (qv_name (i := 3) sc_is_request.nd rfl (.inl rfl) (by decide))) (fun _ _ _ _ _ => qts_nil) (fun _ _ _ _ _ => (qe_in (ru65 hr) (qe_var (pv 3)) (qe_var (pv 2)))))) qb_nil)))))), fun ss κ h => ?_⟩
  obtain ⟨m, d, rfl, sn, k⟩ := h
  ((conv => whnf); repeat (refine And.intro (Eq.refl _) ?_; conv => whnf))
  refine ⟨d, rfl, sn, ?_⟩
  ((conv => whnf); repeat (refine And.intro (Eq.refl _) ?_; conv => whnf))
  by_cases ha : ∃ r : List Str, d = tupS r ∧ (∀ x ∈ r, nameS x = true) ∧ r.Pairwise ltS
  · rw [show ascB d = true by unfold ascB; exact decide_eq_true ha]
    obtain ⟨r, rfl, h1, h2⟩ := ha
    ((conv => whnf); repeat (refine And.intro (Eq.refl _) ?_; conv => whnf))
    refine ⟨m, rfl, ?_⟩
    ((conv => whnf); repeat (refine And.intro (Eq.refl _) ?_; conv => whnf))
    refine lcL_map (i := 3) (ρ := [.val (manD m), .val (tupS r), .val (tupS (nms m)), .un]) (inB (nms m)) (fun d => rfl) (fun d hd k => ?_) ?_
    · obtain ⟨x, hx, rfl⟩ := List.mem_map.mp hd
      intro h
      refine ⟨.inl ?_, ?_⟩
      · rw [flat_strs]; rfl
      · rw [any_eqv_strs]; exact h
    · rw [in_map]
      ((conv => whnf); repeat (refine And.intro (Eq.refl _) ?_; conv => whnf))
      refine ⟨_, rfl, ?_⟩
      have e : reqB m (tupS r) = (r.map fun x => decide (x ∈ nms m)).all id := by
        rw [Bool.eq_iff_iff, List.all_map, List.all_eq_true]
        unfold reqB
        rw [decide_eq_true_iff]
        constructor
        · rintro ⟨r', e, _, _, h⟩ x hx
          rw [tupS_inj e] at hx
          exact decide_eq_true (h x hx)
        · intro h
          exact ⟨r, rfl, h1, h2, fun x hx => of_decide_eq_true (h x hx)⟩
      rw [e] at k
      exact k
  · rw [show ascB d = false by unfold ascB; exact decide_eq_false ha]
    ((conv => whnf); repeat (refine And.intro (Eq.refl _) ?_; conv => whnf))
    have e : reqB m d = false := by
      unfold reqB
      exact decide_eq_false fun ⟨r, e, a, b, _⟩ => ha ⟨r, e, a, b⟩
    rw [e] at k
    exact k
theorem pf_closure {f : Addr} {fd : FuncData} (F : Fun K "closure" "closure" s_closure f fd) (hm : mg "closure" = some (.ref f)) (hk : PySem.W.keepIn K (.ref f) = true) (hb : Binds K fd p_closure []) (G_is_request : PFn τ P w K mg base 3 "is_request" p_is_request spIsReq) (G_closed_over : PFn τ P w K mg base 1 "closed_over" p_closed_over spClosedOver) : PFn τ P w K mg base 4 "closure" p_closure spClosure := by
  refine fn_ofC F hm hk hb sc_closure (fun ss κ h => by obtain ⟨m, d, rfl, _⟩ := h; rfl) fun cdv A outer s H E code gd hr => ?_
  refine ⟨_, (qss_cons (qs_if (qt_not (qt_val (qe_call G_is_request gd (hr.mono (by omega)) (by rfl) (qc_e (qe_var (pv 0)) (qc_e (qe_var (pv 1)) qc_nil)) (apart_of (by decide))))) (qss_one qs_no) qss_nil)
      (qss_one (qs_ret (qe_call G_closed_over gd (hr.mono (by omega)) (by rfl) (qc_e (qe_var (pv 0)) (qc_e (qe_var (pv 1)) qc_nil)) (apart_of (by decide)))))), fun ss κ h => ?_⟩
  obtain ⟨m, r, rfl, W, q, k⟩ := h
  ((conv => whnf); repeat (refine And.intro (Eq.refl _) ?_; conv => whnf))
  refine ⟨m, tupS r, rfl, q.seen, ?_⟩
  ((conv => whnf); repeat (refine And.intro (Eq.refl _) ?_; conv => whnf))
  rw [q.ok]
  ((conv => whnf); repeat (refine And.intro (Eq.refl _) ?_; conv => whnf))
  exact ⟨m, r, rfl, W, q.inn, Nat.le_trans q.few (by decide), k⟩
open Classical in
theorem pf_least_requests {f : Addr} {fd : FuncData} (F : Fun K "least_requests" "least_requests" s_least_requests f fd) (hm : mg "least_requests" = some (.ref f)) (hk : PySem.W.keepIn K (.ref f) = true) (hb : Binds K fd p_least_requests []) (z_len : mg "len" = none) (z_tuple : mg "tuple" = none) (G_closure : PFn τ P w K mg base 4 "closure" p_closure spClosure) (G_all_requests : PFn τ P w K mg base 2 "all_requests" p_all_requests spAllReq) (G_closed_over : PFn τ P w K mg base 1 "closed_over" p_closed_over spClosedOver) : PFn τ P w K mg base 5 "least_requests" p_least_requests spLeast := by
  refine fn_ofC F hm hk hb sc_least_requests (fun ss κ h => by obtain ⟨m, d, rfl, _⟩ := h; rfl) fun cdv A outer s H E code gd hr => ?_
  refine ⟨_, (qss_cons (qs_set (i := 2) sc_least_requests.nd rfl (.inr rfl) (qe_call G_closure gd (hr.mono (by omega)) (by rfl) (qc_e (qe_var (pv 0)) (qc_e (qe_var (pv 1)) qc_nil)) (apart_of (by decide))))
      (qss_cons (qs_set (i := 3) sc_least_requests.nd rfl (.inr rfl) (qe_of (qf_lc (own := [("other", 4)]) rfl sc_least_requests.nd (qi_any (qe_call G_all_requests gd (hr.mono (by omega)) (by rfl) (qc_e (qe_var (pv 0)) qc_nil) (apart_of (by decide)))) (blkOk_by (N := n_least_requests) (sc := defScope s_least_requests) (by decide +kernel)) (fun _ _ _ _ _ => (qv_name (i := 4) sc_least_requests.nd rfl (.inl rfl) (by decide))) (fun _ _ _ _ _ => (qts_one (qt_eq (ru64 hr) (qe_call G_closed_over gd (hr.mono (by omega)) (by rfl) (qc_e (qe_var (pv 0)) (qc_e (qe_var (pv 4)) qc_nil)) (apart_of (by decide))) (qe_var (pv 2))))) (fun _ _ _ _ _ => (qe_var (pv 4))))))
      (qss_one (qs_ret (qe_tuple (by rfl) z_tuple (qb_e (qe_of (qf_lc (own := [("other", 4)]) rfl sc_least_requests.nd (qi_any (qe_var (pv 3))) (blkOk_by (N := n_least_requests) (sc := defScope s_least_requests) (by decide +kernel)) (fun _ _ _ _ _ => (qv_name (i := 4) sc_least_requests.nd rfl (.inl rfl) (by decide))) (fun _ _ _ _ _ => (qts_one (qt_eq (ru64 hr) (qe_len (by rfl) z_len (qb_e (qe_var (pv 4)) qb_nil)) (qe_len (by rfl) z_len (qb_e (qe_ix (qe_var (pv 3)) qe_int) qb_nil))))) (fun _ _ _ _ _ => (qe_var (pv 4))))) qb_nil)))))), fun ss κ h => ?_⟩
  obtain ⟨m, r, rfl, W, ok, q, k⟩ := h
  ((conv => whnf); repeat (refine And.intro (Eq.refl _) ?_; conv => whnf))
  refine ⟨m, r, rfl, W, q, ?_⟩
  ((conv => whnf); repeat (refine And.intro (Eq.refl _) ?_; conv => whnf))
  refine ⟨m, rfl, W.few, ?_⟩
  ((conv => whnf); repeat (refine And.intro (Eq.refl _) ?_; conv => whnf))
  refine lcL_pure (i := 4) (ρ := [.val (manD m), .val (tupS r), .val (tupS (clo m r)), .un, .un]) (fun d => decide (∃ s, d = tupS s ∧ clo m s = clo m r)) id (fun d => rfl) _ [] (fun d hd k => ?_) (fun d hd _ k => ?_) ?_
  · obtain ⟨t, ht, rfl⟩ := List.mem_map.mp hd
    have ht := mem_sortR.mp ht
    intro h
    ((conv => whnf); repeat (refine And.intro (Eq.refl _) ?_; conv => whnf))
    refine ⟨m, t, rfl, W, Wf.sub ht, ?_, ?_⟩
    · have := subsD_short ht; have := W.few; rw [List.length_map] at *; omega
    · ((conv => whnf); repeat (refine And.intro (Eq.refl _) ?_; conv => whnf))
      refine ⟨shp_tupS fun x hx => ok x (clo_in W x hx), shp_tupS fun x hx => ok x (clo_in W x hx), ?_⟩
      ((conv => whnf); repeat (refine And.intro (Eq.refl _) ?_; conv => whnf))
      rw [eqv_tupS]
      have : decide (clo m t = clo m r) = decide (∃ s, tupS t = tupS s ∧ clo m s = clo m r) := decide_eq_decide.mpr ⟨fun h => ⟨t, rfl, h⟩, fun ⟨s, e, h⟩ => by rw [tupS_inj e]; exact h⟩
      rw [this]; exact h
  · exact fun h => h
  · rw [List.nil_append, filt_tup (fun s => clo m s = clo m r)]
    have es : ((sortR (subsD (nms m))).filter fun s => @decide (clo m s = clo m r) (Classical.propDecidable _)) = sameL m r := by
      unfold sameL
      exact List.filter_congr fun s _ => decide_eq_decide.mpr Iff.rfl
    rw [es]
    ((conv => whnf); repeat (refine And.intro (Eq.refl _) ?_; conv => whnf))
    have hself : r ∈ sameL m r := mem_sameL.mpr ⟨sub_of_asc q.asc W.asc q.inn, rfl⟩
    obtain ⟨t0, e0, _⟩ := same_first hself
    have ea : atI ((sameL m r).map tupS) 0 = some (tupS t0) := by
      cases e : sameL m r with
      | nil => rw [e] at e0; cases e0
      | cons a as => rw [e] at e0; cases e0; exact atI_nat (ds := (t0 :: as).map tupS) (i := 0) (by simp)
    refine lcL_pure (i := 4) (ρ := [.val (manD m), .val (tupS r), .val (tupS (clo m r)), .val (.list ((sameL m r).map tupS)), .un]) (lenB t0.length) id (fun d => rfl) _ [] (fun d hd k => ?_) (fun d hd _ k => ?_) ?_
    · obtain ⟨t, ht, rfl⟩ := List.mem_map.mp hd
      intro h
      ((conv => whnf); repeat (refine And.intro (Eq.refl _) ?_; conv => whnf))
      rw [ea]
      ((conv => whnf); repeat (refine And.intro (Eq.refl _) ?_; conv => whnf))
      have e2 : (t0.map PyData.str).length = t0.length := List.length_map _
      rw [e2]
      exact h
    · exact fun h => h
    · rw [List.nil_append]
      ((conv => whnf); repeat (refine And.intro (Eq.refl _) ?_; conv => whnf))
      have e : ((sameL m r).map tupS).filter (lenB t0.length) = (leastL m r).map tupS := by
        unfold leastL
        rw [e0, List.filter_map]
        congr 1
        refine List.filter_congr fun s _ => ?_
        show decide (((s.map PyData.str).length : Int) = t0.length) = decide (s.length = t0.length)
        rw [List.length_map]
        exact decide_eq_decide.mpr Int.ofNat_inj
      rw [List.map_id, e]
      exact k
end
end L2.Pu

set_option Elab.async false
set_option linter.all false
set_option maxRecDepth 100000
set_option maxHeartbeats 4000000
namespace L2.Pu
open PySem PySem.Spec PyProof.Rows
section
variable {P : Program} {w : World} {K : PySem.W.Frag} {mg : Str → Option Value} {base : Heap} {τ : Tb}
theorem pf_L_closed {f : Addr} {fd : FuncData} (F : Fun K "_law_closed" "_law_closed" s_L_closed f fd) (hm : mg "_law_closed" = some (.ref f)) (hk : PySem.W.keepIn K (.ref f) = true) (hb : Binds K fd p_L_closed []) (z_dict : mg "dict" = none) (z_list : mg "list" = none) (z_sorted : mg "sorted" = none) (z_tuple : mg "tuple" = none) : PFn τ P w K mg base 1 "_law_closed" p_L_closed spLClosed := by
  refine fn_ofC F hm hk hb sc_L_closed (fun ss κ h => by obtain ⟨m, fs, rfl, _⟩ := h; rfl) fun cdv A outer s H E code gd hr => ?_
  refine ⟨_, (qss_cons (qs_par3 (i := 2) (j := 3) (l := 4) rfl sc_L_closed.nd rfl rfl rfl (by decide) (by decide) (by decide) rfl rfl rfl (qm_f (qf_dictOf rfl (by rfl) z_dict (qb_e (qe_of (qf_listOf (by rfl) z_list (qb_e (qe_var (pv 0)) qb_nil))) qb_nil)) (qm_f qf_dict (qm_f (qf_listOf (by rfl) z_list (qb_e (qe_var (pv 1)) qb_nil)) qm_nil))) rfl)
      (qss_cons (qs_while PassesOwn.never (qt_neL (ru64 hr) (pv 4) (qe_list qa_nil)) (qss_cons (qs_set (i := 5) sc_L_closed.nd rfl (.inl rfl) (qe_pop (pv 4)))
      (qss_one (qs_if (qt_dnotinR (ru1 hr) (qe_var (pv 5)) (pv 3)) (qss_cons (qs_dput (ru1 hr) (pv 3) (qe_var (pv 5)) qe_bl)
      (qss_one (qs_expr (qe_extend (pv 4) (qa_cons (qe_of (qf_listOf (by rfl) z_list (qb_e (qe_dgetL (ru1 hr) (pv 2) (qe_var (pv 5))) qb_nil))) qa_nil))))) qss_nil))))
      (qss_one (qs_ret (qe_tuple (by rfl) z_tuple (qb_e (qe_of (qf_sorted rfl (by rfl) z_sorted (qb_b (pv 3) qb_nil))) qb_nil)))))), fun ss κ h => ?_⟩
  obtain ⟨m, fs, rfl, W, ok, hi, hl, k⟩ := h
  ((conv => whnf); repeat (refine And.intro (Eq.refl _) ?_; conv => whnf)); rw [pairs_man]; dsimp only; rw [merge_man W]
  let ro : List Str → List Str → Slot → Ro := fun Fd ws s5 => [.val (manD m), .val (tupS fs), .own false (.dic (manE m)), .own false (.dic (fdE Fd)), .own false (.lst (ws.map PyData.str)), s5]
  ((conv => whnf); repeat (refine And.intro (Eq.refl _) ?_; conv => whnf))
  refine ⟨fun n ρ => ∃ Fd ws s5, Wl m fs Fd ws ∧ n = (11 - Fd.length) * 11 + ws.length ∧ ρ = ro Fd ws s5, ⟨_, [], fs, .un, Wl.init hi, rfl, rfl⟩, ?_⟩
  rintro n ρ ⟨Fd, ws, s5, w, rfl, rfl⟩
  have sz := w.size W
  have okw : Shp (strsL ws) := shp_strsL fun x hx => ok x (w.inW x hx).1
  ((conv => whnf); repeat (refine And.intro (Eq.refl _) ?_; conv => whnf))
  refine ⟨okw, shp_strsL (r := []) (fun _ z => nomatch z), ?_⟩
  rcases snoc_cases ws with rfl | ⟨ws, x, rfl⟩
  · ((conv => whnf); repeat (refine And.intro (Eq.refl _) ?_; conv => whnf))
    refine ⟨Fd, fd_keys Fd, by omega, ?_⟩
    ((conv => whnf); repeat (refine And.intro (Eq.refl _) ?_; conv => whnf))
    rw [w.done W hi]
    exact k
  · ((conv => whnf); repeat (refine And.intro (Eq.refl _) ?_; conv => whnf))
    have e0 : PyData.eqv (.list ((ws ++ [x]).map PyData.str)) (.list []) = false := (eqv_strsL (ws ++ [x]) []).trans (decide_eq_false (by simp))
    rw [e0]; ((conv => whnf); repeat (refine And.intro (Eq.refl _) ?_; conv => whnf))
    refine ⟨fun ρ => ∃ m', m' < (11 - Fd.length) * 11 + (ws ++ [x]).length ∧ ∃ Fd ws s5, Wl m fs Fd ws ∧ m' = (11 - Fd.length) * 11 + ws.length ∧ ρ = ro Fd ws s5, fun ρ' h => h, ?_⟩
    ((conv => whnf); repeat (refine And.intro (Eq.refl _) ?_; conv => whnf))
    rw [last_snoc]; dsimp only; rw [drop_snoc]
    by_cases hx : x ∈ Fd
    · ((conv => whnf); repeat (refine And.intro (Eq.refl _) ?_; conv => whnf))
      rw [fd_in, decide_eq_true hx, txK_map]; ((conv => whnf); repeat (refine And.intro (Eq.refl _) ?_; conv => whnf))
      exact ⟨_, by rw [List.length_append]; exact Nat.lt_succ_self _, Fd, ws, _, w.skip hx, rfl, rfl⟩
    · have w2 := (w.fresh W hx).perm (F' := Fd ++ [x]) (List.perm_append_comm (l₁ := [x]) (l₂ := Fd))
      have sz2 := w2.size W
      have hin := (w.inW x (List.mem_append_right _ List.mem_cons_self)).1
      ((conv => whnf); repeat (refine And.intro (Eq.refl _) ?_; conv => whnf))
      rw [fd_in, decide_eq_false hx, txK_map]; ((conv => whnf); repeat (refine And.intro (Eq.refl _) ?_; conv => whnf))
      refine ⟨by unfold fdE; rw [List.length_map]; omega, ?_⟩
      ((conv => whnf); repeat (refine And.intro (Eq.refl _) ?_; conv => whnf))
      rw [getD_man hin]; ((conv => whnf); repeat (refine And.intro (Eq.refl _) ?_; conv => whnf))
      have len2 := w2.few
      rw [List.length_append, List.length_append, List.length_singleton] at len2
      rw [List.length_append, List.length_singleton] at sz2
      refine ⟨by rw [List.length_map, List.length_map]; omega, ?_⟩
      refine ⟨_, ?_, Fd ++ [x], ws ++ impl m x, .val (.str x), w2, rfl, ?_⟩
      · have := W.impl_short x
        rw [List.length_append, List.length_append, List.length_append, List.length_singleton]
        omega
      · show _ = [Slot.val (manD m), .val (tupS fs), .own false (.dic (manE m)), .own false (.dic (fdE (Fd ++ [x]))), .own false (.lst ((ws ++ impl m x).map PyData.str)), Slot.val (.str x)]
        rw [List.map_append, ← fd_put hx]
        rfl
end
end L2.Pu

set_option Elab.async false
set_option linter.all false
set_option maxRecDepth 100000
set_option maxHeartbeats 4000000
namespace L2.Pu
open PySem PySem.Spec PyProof.Rows
section
variable {P : Program} {w : World} {K : PySem.W.Frag} {mg : Str → Option Value} {base : Heap} {τ : Tb}
def thC (n k : Nat) (d : PyData) : Bool := d.showable && (d.leavesShort 40 && (noTK d && (decide (d.bulk ≤ n) && decide (d.depth ≤ k))))
theorem thC_th {n k : Nat} {d : PyData} (h : thC n k d = true) : Th d n k := by
  unfold thC at h
  simp only [Bool.and_eq_true, decide_eq_true_eq] at h
  exact ⟨h.1, h.2.1, h.2.2.1, h.2.2.2.1, h.2.2.2.2⟩
theorem all_th {n k : Nat} {ds : List PyData} (h : ds.all (thC n k) = true) : ∀ d ∈ ds, Th d n k := fun d hd => thC_th (List.all_eq_true.mp h d hd)
theorem cut_sub (ds : List PyData) (lo hi : Option Int) : (cutD ds lo hi).Sublist ds := by
  unfold cutD
  exact (List.take_sublist _ _).trans (List.drop_sublist _ _)
def spOdd : PSp := fun ss κ => ∃ n : Nat, ss = [.own true (.hand n)] ∧ 30 ≤ n ∧ ∀ (d : PyData) (n' : Nat), Th d 200 25 → n - 30 ≤ n' → κ d [.own true (.hand n')]
theorem pf_L_odd {f : Addr} {fd : FuncData} (F : Fun K "_law_odd" "_law_odd" s_L_odd f fd) (hm : mg "_law_odd" = some (.ref f)) (hk : PySem.W.keepIn K (.ref f) = true) (hb : Binds K fd p_L_odd []) (z_range : mg "range" = none) (G_L_of : PFn τ P w K mg base 2 "_law_of" p_L_of spOf) : PFn τ P w K mg base 3 "_law_odd" p_L_odd spOdd := by
  refine fn_ofC F hm hk hb sc_L_odd (fun ss κ h => by obtain ⟨n, rfl, _⟩ := h; rfl) fun cdv A outer s H E code gd hr => ?_
  refine ⟨_, (qss_cons (qs_set (i := 1) sc_L_odd.nd rfl (.inl rfl) (qe_list (qa_cons qe_non (qa_cons qe_bl (qa_cons qe_bl (qa_cons qe_int (qa_cons qe_int (qa_cons (qe_neg qe_int) (qa_cons qe_int (qa_cons qe_int (qa_cons (qe_pow qe_int qe_int) (qa_cons qe_str (qa_cons qe_str (qa_cons qe_str (qa_cons qe_str (qa_cons qe_str (qa_cons qe_str (qa_cons qe_str qa_nil))))))))))))))))))
      (qss_cons (qs_set (i := 1) sc_L_odd.nd rfl (.inl rfl) (qe_add (qe_var (pv 1)) (qe_list (qa_cons (qe_tup qa_nil) (qa_cons (qe_list qa_nil) (qa_cons qe_dictN (qa_cons (qe_tup (qa_cons qe_str qa_nil)) (qa_cons (qe_tup (qa_cons qe_str qa_nil)) (qa_cons (qe_tup (qa_cons qe_str qa_nil)) (qa_cons (qe_tup (qa_cons qe_str (qa_cons qe_str qa_nil))) (qa_cons (qe_list (qa_cons (qe_tup (qa_cons qe_str qa_nil)) qa_nil)) (qa_cons (qe_dict1 (qe_tup qa_nil)) (qa_cons (qe_tup (qa_cons (qe_tup (qa_cons qe_str (qa_cons (qe_tup qa_nil) qa_nil))) qa_nil)) qa_nil)))))))))))))
      (qss_cons (qs_set (i := 2) sc_L_odd.nd rfl (.inl rfl) (qe_call G_L_of gd (hr.mono (by omega)) (by rfl) (qc_r (pv 0) (qc_e (qe_var (pv 1)) qc_nil)) (apart_of (by decide))))
      (qss_cons (qs_for PassesOwn.never rfl (qi_range1 (by rfl) z_range (qa_cons (qe_call G_L_of gd (hr.mono (by omega)) (by rfl) (qc_r (pv 0) (qc_e (qe_list (qa_cons qe_int (qa_cons qe_int (qa_cons qe_int (qa_cons qe_int (qa_cons qe_int (qa_cons qe_int qa_nil))))))) qc_nil)) (apart_of (by decide))) qa_nil)) (qg_name (i := 3) sc_L_odd.nd rfl (.inl rfl)) (qss_one (qs_set (i := 2) sc_L_odd.nd rfl (.inl rfl) (qe_call G_L_of gd (hr.mono (by omega)) (by rfl) (qc_r (pv 0) (qc_e (qe_list (qa_cons (qe_tup (qa_cons (qe_var (pv 2)) qa_nil)) (qa_cons (qe_list (qa_cons (qe_var (pv 2)) qa_nil)) (qa_cons (qe_dict1 (qe_var (pv 2))) qa_nil)))) qc_nil)) (apart_of (by decide))))))
      (qss_one (qs_ret (qe_var (pv 2)))))))), fun ss κ h => ?_⟩
  obtain ⟨n, rfl, hn, k⟩ := h
  obtain ⟨n, rfl⟩ : ∃ z, n = z + 2 := ⟨n - 2, by omega⟩
  ((conv => whnf); repeat (refine And.intro (Eq.refl _) ?_; conv => whnf))
  refine ⟨⟨by decide, by decide, by decide⟩, ?_⟩
  ((conv => whnf); repeat (refine And.intro (Eq.refl _) ?_; conv => whnf))
  refine ⟨by decide, ?_⟩
  ((conv => whnf); repeat (refine And.intro (Eq.refl _) ?_; conv => whnf))
  refine ⟨n + 1, _, rfl, by simp, by decide, fun d hd => ?_⟩
  have td : Th d 30 3 := all_th (by decide +kernel) d hd
  ((conv => whnf); repeat (refine And.intro (Eq.refl _) ?_; conv => whnf))
  refine ⟨n, _, rfl, by simp, by decide, fun dd hdd => ?_⟩
  obtain ⟨sz, rfl, hsz⟩ := nats_mem 20 (by decide) hdd
  ((conv => whnf); repeat (refine And.intro (Eq.refl _) ?_; conv => whnf))
  refine ⟨by omega, by omega, ?_⟩
  refine forL_by (fun ds ρ => ∃ (e : PyData) (dn n' : Nat) (s1 s3 : Slot), Th e (30 + 6 * dn) (3 + dn) ∧ dn + ds.length = sz ∧ n ≤ n' + dn ∧ ρ = [.own true (.hand n'), s1, .val e, s3]) ?_ ?_ _ _ ⟨d, 0, n, _, _, td, by simp [rngD], by omega, rfl⟩
  · rintro ρ ⟨e, dn, n', s1, s3, te, hl, hn', rfl⟩
    ((conv => whnf); repeat (refine And.intro (Eq.refl _) ?_; conv => whnf))
    simp only [List.length_nil] at hl
    exact k e n' (te.more (by omega) (by omega)) (by omega)
  · rintro x ds ρ ⟨e, dn, n', s1, s3, te, hl, hn', rfl⟩
    rw [List.length_cons] at hl
    obtain ⟨n', rfl⟩ : ∃ z, n' = z + 1 := ⟨n' - 1, by omega⟩
    ((conv => whnf); repeat (refine And.intro (Eq.refl _) ?_; conv => whnf))
    refine ⟨n', _, rfl, by simp, by simp, fun e2 he2 => ?_⟩
    have t2 : Th e2 (30 + 6 * (dn + 1)) (3 + (dn + 1)) := by
      simp only [List.mem_cons, List.not_mem_nil, or_false] at he2
      rcases he2 with rfl | rfl | rfl
      · exact (th_tup te.one).more (by omega) (by omega)
      · exact (th_lst te.one).more (by omega) (by omega)
      · exact (th_dict1 (x := "a") (by decide +kernel) te).more (by have : (("a" : Str).cps.size) = 1 := rfl; omega) (by omega)
    ((conv => whnf); repeat (refine And.intro (Eq.refl _) ?_; conv => whnf))
    exact ⟨e2, dn + 1, n', _, _, t2, by omega, by omega, rfl⟩
def spBent (D : Nat) : PSp := fun ss κ => ∃ (n N k0 : Nat) (d : PyData), ss = [.own true (.hand n), .val d, .val (.int D)] ∧ Th d N k0 ∧ Shp d ∧ N ≤ 10000 ∧ k0 ≤ 20 ∧ 40 * (D + 1) ≤ n ∧ ∀ (e : PyData) (n' : Nat), Th e ((2 * N + 300) * (D + 1)) (k0 + 26) → n - 40 * (D + 1) ≤ n' → κ e [.own true (.hand n'), .un, .un]
theorem shp_mem {ds : List PyData} (h : Shp (.tuple ds)) {d : PyData} (hd : d ∈ ds) : Shp d := by
  have h : SeqAt.shaped (.tuple ds) = true := h
  unfold SeqAt.shaped at h
  rw [Bool.and_eq_true] at h
  have h1 : PyData.canLayAll0 ds = true := by simpa only [PyData.canLay0] using h.1
  have h2 : PyData.depthAll ds ≤ 63 := by have := of_decide_eq_true h.2; simp only [PyData.depth] at this; omega
  have : ∀ {l : List PyData}, PyData.canLayAll0 l = true → PyData.depthAll l ≤ 63 → d ∈ l → PyData.canLay0 d = true ∧ PyData.depth d ≤ 63 := by
    intro l
    induction l with
    | nil => intro _ _ z; cases z
    | cons e l ih =>
      intro a b z
      simp only [PyData.canLayAll0, Bool.and_eq_true] at a
      simp only [PyData.depthAll, Nat.max_le] at b
      rcases List.mem_cons.mp z with rfl | z
      · exact ⟨a.1, b.1⟩
      · exact ih a.2 b.2 z
  obtain ⟨a, b⟩ := this h1 h2 hd
  show SeqAt.shaped d = true
  unfold SeqAt.shaped
  rw [Bool.and_eq_true]
  exact ⟨a, decide_eq_true (by omega)⟩
end
end L2.Pu

set_option Elab.async false
set_option linter.all false
set_option maxRecDepth 100000
set_option maxHeartbeats 4000000
namespace L2.Pu
open PySem PySem.Spec PyProof.Rows
section
variable {P : Program} {w : World} {K : PySem.W.Frag} {mg : Str → Option Value} {base : Heap} {τ : Tb}
theorem qt_chainll {X : Cx} {a b c : Expr} {qa qb qc : QE} {pos : Pos} (ha : PQ τ X a qa) (hb : PQ τ X b qb) (hc : PQ τ X c qc) : PQT τ X (.Compare a [.Lt, .Lt] [b, c] pos) (qB (qChain (fun i j => decide (i < j)) (fun i j => decide (i < j)) qa qb qc)) := pt_imp _ (pt_chain op_lt op_lt ha hb hc (nomark c)) (test_imp chain_imp)
def tupB (n : Int) : PyData → Bool
  | .tuple ds => decide ((ds.length : Int) = n)
  | _ => false
def spTupOfA : PSp := fun ss κ => ∃ (n : Int) (d : PyData), ss = [.val (.int n), .val d] ∧ Seen1 d ∧ κ (.bool (tupB n d)) [.un, .un]
def twoD (p : PyData × PyData) : PyData := .tuple [p.1, p.2]
def spFeaturesInA : PSp := fun ss κ => ∃ ps : List (PyData × PyData), ss = [.val (.tuple (ps.map twoD))] ∧ κ (.tuple (ps.map (·.1))) [.un]
theorem pf_features_inA {f : Addr} {fd : FuncData} (F : Fun K "features_in" "features_in" s_features_in f fd) (hm : mg "features_in" = some (.ref f)) (hk : PySem.W.keepIn K (.ref f) = true) (hb : Binds K fd p_features_in []) (z_tuple : mg "tuple" = none) : PFn τ P w K mg base 1 "features_in" p_features_in spFeaturesInA := by
  refine fn_ofC F hm hk hb sc_features_in (fun ss κ h => by obtain ⟨m, rfl, _⟩ := h; rfl) fun cdv A outer s H E code gd hr => ?_
  refine ⟨_, (qss_one (qs_ret (qe_tuple (by rfl) z_tuple (qb_e (qe_of (qf_lc (own := [("pair", 1)]) rfl sc_features_in.nd (qi_any (qe_var (pv 0))) (blkOk_by (N := n_features_in) (sc := defScope s_features_in) (by decide +kernel)) (fun _ _ _ _ _ => (qv_name (i := 1) sc_features_in.nd rfl (.inl rfl) (by decide))) (fun _ _ _ _ _ => qts_nil) (fun _ _ _ _ _ => (qe_ix (qe_var (pv 1)) qe_int)))) qb_nil)))), fun ss κ h => ?_⟩
  obtain ⟨ps, rfl, k⟩ := h
  ((conv => whnf); repeat (refine And.intro (Eq.refl _) ?_; conv => whnf))
  refine lcL_each (ρ := [.val (.tuple (ps.map twoD)), .un]) twoD (·.1) ps (fun u hu K hK => hK) ?_
  exact k
open Classical in
noncomputable def canB (fs : List Str) (f : Str) (d : PyData) : Bool := decide (∃ r : List Str, d = tupS r ∧ (∀ x ∈ r, nameS x = true) ∧ r.Pairwise ltS ∧ ∀ x ∈ r, x ∈ fs ∧ x ≠ f)
def spCan : PSp := fun ss κ => ∃ (fs : List Str) (f : Str) (d : PyData), ss = [.val (tupS fs), .val (.str f), .val d] ∧ SeenT d ∧ κ (.bool (canB fs f d)) [.un, .un, .un]
end
end L2.Pu

set_option Elab.async false
set_option linter.all false
set_option maxRecDepth 100000
set_option maxHeartbeats 4000000
namespace L2.Pu
open PySem PySem.Spec PyProof.Rows
section
variable {P : Program} {w : World} {K : PySem.W.Frag} {mg : Str → Option Value} {base : Heap} {τ : Tb}
def qfSetOfW (q : QE) : QF := fun ρ κ => q ρ fun d ρ1 => ∃ ts, textsD d ts ∧ ts.length < 4095 ∧ κ (.set (Fu.allL ts)) ρ1
theorem qf_setOfW {X : Cx} {pos p : Pos} {e : Expr} {q : QE} (hc : X.calm = true) (hg : Gl X "set") (hm : X.mg "set" = none) (h : PQ τ X e q) (he : starEach [e] X.env = (false, eval e X.env) :: starEach [] X.env := by rfl) (hpl : (backTo pos (starEach [] X.env)).any (·.1) = false := by rfl) :
    PQF τ X (.Call (.Name "set" p) [e] [] pos) (qfSetOfW q) := by
  refine pe_imp _ (pe_callTy (cr_setOf hc) hg hm (by decide +kernel) (pa_cons h pa_nil he) (by decide) (by decide) he hpl) ?_
  rintro σ H Q ⟨F, ρ, C, R, κ, k, z⟩
  refine ⟨F, ρ, C, R, _, k, fun d ρ1 v C1 H1 k1 s1 R1 d1 => ?_⟩
  obtain ⟨ts, td, hl, k1⟩ := k1
  have sb : ts.length + 1 < scanBound := by unfold scanBound; omega
  rcases td with rfl | rfl
  · cases d1 with
    | @lst a xs ds ea na ha =>
      rw [strs_of ha] at ea
      refine .inl ⟨a, ts, rfl, SqL.of (R1.sub _ _ ea), sb, fun p np => ?_⟩
      exact z _ _ _ _ _ k1 s1 (R1.layH np) upd_same (R1.new_fresh np) (R1.ref_ne np)
  · cases d1 with
    | @tup a oa xs ds ea na ha =>
      rw [strs_of ha] at ea
      refine .inr ⟨a, ts, rfl, sqF (R1.sub _ _ ea), sb, fun p np => ?_⟩
      exact z _ _ _ _ _ k1 s1 (R1.layH np) upd_same (R1.new_fresh np) (R1.ref_ne np)
theorem name_lay {x : Str} (h : nameS x = true) : PyData.canLay0 (.str x) = true := by
  unfold nameS at h
  simp only [Bool.and_eq_true, List.all_eq_true, decide_eq_true_eq] at h
  have l : ∀ c ∈ lettersS.cps.toList, c < 0x110000 := by decide +kernel
  rw [PyData.canLay0]
  unfold PyData.strOk
  rw [← Array.all_toList, List.all_eq_true]
  exact fun c hc => decide_eq_true (l c (h.2 c hc))
theorem okS_names {r : List Str} (h : ∀ x ∈ r, nameS x = true) : okS r := fun x hx => name_lay (h x hx)
theorem okS_sorted {r : List Str} (h : ∀ x ∈ r, nameS x = true) : okS (sortS (Fu.allL r)) := fun x hx => name_lay (h x ((Fu.mem_allL r x).mp (mem_sortS.mp hx)))
theorem asc_sorted (r : List Str) : (r = sortS (Fu.allL r)) ↔ r.Pairwise ltS := by
  have nd : (sortS (Fu.allL r)).Nodup := (sortS_perm _).nodup_iff.mpr (allL_nodup _)
  constructor
  · intro e
    rw [e]
    exact (sortS_pair (Fu.allL r)).imp₂ (fun a b h1 h2 => ⟨h1, h2⟩) nd
  · intro h
    have n2 : r.Nodup := h.imp fun h => h.2
    have p : (Fu.allL r).Perm r := (List.perm_ext_iff_of_nodup (allL_nodup _) n2).mpr fun x => Fu.mem_allL r x
    rw [sortS_congr p, sortS_id (h.imp fun h => h.1)]
theorem bulk_len : ∀ {r : List Str}, (∀ x ∈ r, nameS x = true) → 2 * r.length ≤ PyData.bulkAll (r.map PyData.str)
  | [], _ => Nat.zero_le _
  | x :: r, h => by
    have := bulk_len fun y hy => h y (List.mem_cons_of_mem _ hy)
    have h1 := h x List.mem_cons_self
    unfold nameS at h1
    simp only [Bool.and_eq_true, decide_eq_true_eq] at h1
    have : 1 ≤ x.cps.size := h1.1.1
    rw [List.map_cons, PyData.bulkAll, List.length_cons, PyData.bulk]
    omega
theorem allL_few {r ns : List Str} (h : ∀ x ∈ r, x ∈ ns) : (Fu.allL r).length ≤ ns.length :=
  nodup_le (allL_nodup r) (fun x hx => h x ((Fu.mem_allL r x).mp hx))
open Classical in
noncomputable def someB (ns : List Str) (d : PyData) : Bool := decide (∃ r : List Str, d = tupS r ∧ r.Pairwise ltS ∧ ∀ x ∈ r, x ∈ ns)
open Classical in
theorem someB_noT {ns : List Str} {d : PyData} (h : ∀ ds, d ≠ .tuple ds) : someB ns d = false := by
  unfold someB
  exact decide_eq_false fun ⟨r, e, _⟩ => h _ e
def isIn (ns : List Str) : PyData → Bool
  | .str x => decide (x ∈ ns)
  | _ => false
theorem strs_in {ns : List Str} : ∀ {ds : List PyData}, (∀ d ∈ ds, isIn ns d = true) → ∃ r : List Str, ds = r.map PyData.str ∧ ∀ x ∈ r, x ∈ ns
  | [], _ => ⟨[], rfl, (fun _ z => nomatch z)⟩
  | d :: ds, h => by
    obtain ⟨r, e, hr⟩ := strs_in fun q hq => h q (List.mem_cons_of_mem _ hq)
    have h1 := h d List.mem_cons_self
    cases d with
    | str x =>
      refine ⟨x :: r, by rw [e]; rfl, fun y hy => ?_⟩
      rcases List.mem_cons.mp hy with rfl | hy
      · exact of_decide_eq_true h1
      · exact hr y hy
    | _ => cases h1
def spSomeOf : PSp := fun ss κ => ∃ (ns : List Str) (d : PyData) (n k : Nat), ss = [.val (strsL ns), .val d] ∧ Th d n k ∧ n ≤ 1000000 ∧ (n ≤ 8000 ∨ ∀ ds, d = .tuple ds → ds.length < 4095) ∧ (∀ x ∈ ns, nameS x = true) ∧ ns.length ≤ 10 ∧ κ (.bool (someB ns d)) [.un, .un]
open Classical in
theorem pf_L_is_some_of {f : Addr} {fd : FuncData} (F : Fun K "_law_is_some_of" "_law_is_some_of" s_L_is_some_of f fd) (hm : mg "_law_is_some_of" = some (.ref f)) (hk : PySem.W.keepIn K (.ref f) = true) (hb : Binds K fd p_L_is_some_of []) (z_all : mg "all" = none) (z_isinstance : mg "isinstance" = none) (z_list : mg "list" = none) (z_set : mg "set" = none) (z_sorted : mg "sorted" = none) (z_str : mg "str" = none) (z_tuple : mg "tuple" = none) : PFn τ P w K mg base 1 "_law_is_some_of" p_L_is_some_of spSomeOf := by
  refine fn_ofC F hm hk hb sc_L_is_some_of (fun ss κ h => by obtain ⟨ns, d, n, k, rfl, _⟩ := h; rfl) fun cdv A outer s H E code gd hr => ?_
  refine ⟨_, (qss_cons (qs_if (qw_or (qt_not (qt_val (qe_isi (T := "tuple") (.inr (.inl rfl)) (by rfl) z_isinstance (qe_var (pv 1)) (pe_bltn (v := .ty "tuple") (u := .type "tuple") (by rfl) z_tuple (by decide +kernel) rfl)))) (qw_or1 (qt_not (qt_val (qe_all rfl (by rfl) z_all (qb_e (qe_of (qf_lc (own := [("_law_one", 2)]) rfl sc_L_is_some_of.nd (qi_any (qe_var (pv 1))) (blkOk_by (N := n_L_is_some_of) (sc := defScope s_L_is_some_of) (by decide +kernel)) (fun _ _ _ _ _ => (qv_name (i := 2) sc_L_is_some_of.nd rfl (.inl rfl) (by decide))) (fun _ _ _ _ _ => qts_nil) (fun _ _ _ _ _ => (qe_and (qe_isi (T := "str") (.inl rfl) (by rfl) z_isinstance (qe_var (pv 2)) (pe_bltn (v := .ty "str") (u := .type "str") (by rfl) z_str (by decide +kernel) rfl)) (qe_one (qe_in (ru65 hr) (qe_var (pv 2)) (qe_var (pv 0)))))))) qb_nil)))))).pt (qss_one (qs_ret qe_bl)) qss_nil)
      (qss_one (qs_ret (qe_eq (ru64 hr) (qe_of (qf_listOf (by rfl) z_list (qb_e (qe_var (pv 1)) qb_nil))) (qe_of (qf_sortOf rfl (by rfl) z_sorted (qf_setOfW rfl (by rfl) z_set (qe_var (pv 1))))))))), fun ss κ h => ?_⟩
  obtain ⟨ns, d, n, k0, rfl, td, hn, hn2, hns, lns, k⟩ := h
  have sn := td.seen (by omega)
  cases d with
  | tuple ds =>
    obtain ⟨k1, rfl, aT⟩ := th_tup_inv td
    ((conv => whnf); repeat (refine And.intro (Eq.refl _) ?_; conv => whnf))
    refine lcL_map (i := 2) (ρ := [.val (strsL ns), .val (.tuple ds), .un]) (fun d => .bool (isIn ns d)) (fun d => rfl) (fun d hd k => ?_) ?_
    · have sd := (aT.mem hd).seen (by omega)
      intro h
      cases d with
      | str x =>
        ((conv => whnf); repeat (refine And.intro (Eq.refl _) ?_; conv => whnf))
        refine ⟨.inl ?_, ?_⟩
        · rw [flat_strs]; rfl
        · rw [any_eqv_strs]; exact h
      | dict es =>
        cases es with
        | nil => ((conv => whnf); repeat (refine And.intro (Eq.refl _) ?_; conv => whnf)); exact h
        | cons e r =>
          obtain ⟨a, b⟩ := e
          cases a with
          | tuple t => exact absurd rfl (sd.nd t b r)
          | _ => ((conv => whnf); repeat (refine And.intro (Eq.refl _) ?_; conv => whnf)); exact h
      | _ => ((conv => whnf); repeat (refine And.intro (Eq.refl _) ?_; conv => whnf)); exact h
    · ((conv => whnf); repeat (refine And.intro (Eq.refl _) ?_; conv => whnf))
      refine ⟨ds.map (isIn ns), by rw [List.map_map]; rfl, ?_⟩
      ((conv => whnf); repeat (refine And.intro (Eq.refl _) ?_; conv => whnf))
      by_cases ht : ∀ d ∈ ds, isIn ns d = true
      · try dsimp only
        rw [show (ds.map (isIn ns)).all id = true by rw [List.all_map, List.all_eq_true]; exact ht]
        obtain ⟨r, rfl, hr'⟩ := strs_in ht
        have nr : ∀ x ∈ r, nameS x = true := fun x hx => hns x (hr' x hx)
        have lr : r.length < 4095 := by
          rcases hn2 with z | z
          · have : 2 * r.length ≤ n := Nat.le_trans (bulk_len nr) aT.few
            omega
          · have := z _ rfl
            rw [List.length_map] at this
            exact this
        ((conv => whnf); repeat (refine And.intro (Eq.refl _) ?_; conv => whnf))
        refine ⟨r, .inr rfl, by omega, ?_⟩
        ((conv => whnf); repeat (refine And.intro (Eq.refl _) ?_; conv => whnf))
        refine ⟨Nat.lt_of_le_of_lt (allL_few hr') (by omega), ?_⟩
        ((conv => whnf); repeat (refine And.intro (Eq.refl _) ?_; conv => whnf))
        refine ⟨shp_strsL (okS_names nr), shp_strsL (okS_sorted nr), ?_⟩
        have e : someB ns (tupS r) = decide (r = sortS (Fu.allL r)) := by
          unfold someB
          refine decide_eq_decide.mpr ?_
          rw [asc_sorted]
          constructor
          · rintro ⟨r', e, a, _⟩
            rw [tupS_inj e]; exact a
          · exact fun h => ⟨r, rfl, h, hr'⟩
        rw [show PyData.tuple (r.map PyData.str) = tupS r from rfl, e, ← eqv_strsL] at k
        exact k
      · try dsimp only
        rw [show (ds.map (isIn ns)).all id = false by rw [Bool.eq_false_iff]; intro z; rw [List.all_map, List.all_eq_true] at z; exact ht z]
        ((conv => whnf); repeat (refine And.intro (Eq.refl _) ?_; conv => whnf))
        have e : someB ns (.tuple ds) = false := by
          unfold someB
          refine decide_eq_false ?_
          rintro ⟨r, e, _, h⟩
          cases e
          refine ht fun d hd => ?_
          obtain ⟨x, hx, rfl⟩ := List.mem_map.mp hd
          exact decide_eq_true (h x hx)
        rw [e] at k
        exact k
  | dict es =>
    rw [someB_noT (by intro _ z; cases z)] at k
    cases es with
    | nil => ((conv => whnf); repeat (refine And.intro (Eq.refl _) ?_; conv => whnf)); exact k
    | cons e r =>
      obtain ⟨a, b⟩ := e
      cases a with
      | tuple t => exact absurd rfl (sn.nd t b r)
      | _ => ((conv => whnf); repeat (refine And.intro (Eq.refl _) ?_; conv => whnf)); exact k
  | _ => rw [someB_noT (by intro _ z; cases z)] at k; ((conv => whnf); repeat (refine And.intro (Eq.refl _) ?_; conv => whnf)); exact k
end
end L2.Pu

set_option Elab.async false
set_option linter.all false
set_option maxRecDepth 100000
set_option maxHeartbeats 4000000
namespace L2.Pu
open PySem PySem.Spec PyProof.Rows
section
variable {P : Program} {w : World} {K : PySem.W.Frag} {mg : Str → Option Value} {base : Heap} {τ : Tb}
theorem DaAll.rep {w : World} {C : Hp} {vs : List V} {ds : List PyData} (h : DaAll w C vs ds) : ∀ n : Nat, DaAll w C (List.replicate n vs).flatten (List.replicate n ds).flatten
  | 0 => .nil
  | n + 1 => by
    rw [List.replicate_succ, List.replicate_succ, List.flatten_cons, List.flatten_cons]
    exact h.append (DaAll.rep h n)
/-- a list, some times over -/
def mulLD : D2 := fun x y P => match x, y with
  | .list a, .int k => (-(2 ^ 62) ≤ k ∧ k < 2 ^ 62 ∧ a.length * k.toNat ≤ 16000000) ∧ P (.list (List.replicate k.toNat a).flatten)
  | _, _ => False
theorem ok_mulL {X : Cx} : OkD τ X rRep mulLD := by
  intro F ρ C σ H x y d e P Q R dx dy h z
  cases dx with
  | @lst a xs ds ea da =>
    cases dy with
    | int k =>
      obtain ⟨⟨h1, h2, hl⟩, h⟩ := h
      rw [← da.length] at hl
      refine ⟨a, k, xs, rfl, rfl, ea, by omega, by omega, line_le hl, fun p np => ?_⟩
      have cp := sub_none R.sub np
      exact z _ _ _ _ h (same_new cp) (R.lay np) (.lst upd_same (R.nsys np) ((da.rep k.toNat).mono (same_new cp)))
    | _ => exact h.elim
  | _ => exact h.elim
theorem qe_mulL {X : Cx} {a b : Expr} {qa qb : QE} {pos : Pos} (ha : PQ τ X a qa) (hb : PQ τ X b qb) : PQ τ X (.BinOp a .Mult b pos) (qOp mulLD qa qb) := pe_imp _ (pe_op op_rep ha hb) (op_imp ok_mulL)
def qRevL (qa : QE) : QE := fun ρ κ => qa ρ fun d ρ1 => match d with
  | .list ds => κ (.list ds.reverse) ρ1
  | _ => False
theorem qe_revL {X : Cx} {e : Expr} {qa : QE} {k : Nat} {p1 p2 p3 pos : Pos} (he : PQ τ X e qa) : PQ τ X (.Subscript e (.Slice none none (some (.UnaryOp .USub (.Constant (.int 1) k p1) p2)) p3) pos) (qRevL qa) := by
  refine pe_imp _ (pe_revL he) ?_
  rintro σ H Q ⟨F, ρ, C, R, κ, k, z⟩
  refine ⟨F, ρ, C, R, _, k, fun d ρ1 v C1 H1 k1 s1 R1 d1 => ?_⟩
  cases d1 with
  | @lst a xs ds ea _ ha =>
    refine ⟨a, xs, rfl, SqL.of (R1.sub _ _ ea), fun q nq => ?_⟩
    have cp := sub_none R1.sub nq
    exact z _ _ _ _ _ k1 (same_trans s1 (same_new cp)) (R1.lay nq) (.lst upd_same (R1.nsys nq) (ha.reverse.mono (same_new cp)))
  | _ => exact False.elim k1
theorem fit_bool (b : Bool) : FitA (.bool b) := by
  have t : Th (.bool b) 0 0 := by cases b <;> exact thC_th (by decide +kernel)
  exact t.fit (by decide) (by decide)
theorem th_ten : ThAll (ten.map PyData.str) 36 0 := ⟨by decide +kernel, by decide +kernel, by decide +kernel, by decide +kernel, by decide +kernel⟩
theorem th_names {r : List Str} (h : r.Sublist ten) : ThAll (r.map PyData.str) 36 0 := th_ten.sub (h.map _)
theorem th_tupS {r : List Str} (h : r.Sublist ten) : Th (tupS r) 36 1 := th_tup (th_names h)
theorem ten_th : ∀ x ∈ ten, thC 8 0 (.str x) = true := by decide +kernel
theorem th_rows : ∀ {m : Man}, (∀ r ∈ m, r.1 ∈ ten ∧ r.2.Sublist ten) → ThAll (m.map rowD) (47 * m.length) 2
  | [], _ => ThAll.nil
  | r :: m, h => by
    have h1 := h r List.mem_cons_self
    have := th_rows fun q hq => h q (List.mem_cons_of_mem _ hq)
    refine thAll_cons.mpr ⟨46, th_tup (thAll_cons.mpr ⟨8, (thC_th (ten_th _ h1.1)).more (by omega) (by omega), (th_tupS h1.2).one.more (by omega) (by omega), by omega⟩), ?_, ?_⟩
    · refine this.more ?_ (Nat.le_refl _)
      rw [List.length_cons]; omega
    · rw [List.length_cons]; omega
theorem th_man {m : Man} (g : GoodM m) : Th (manD m) 470 3 := by
  refine (th_tup (th_rows fun r hr => ⟨g.nam.subset (List.mem_map.mpr ⟨r, hr, rfl⟩), (g.imp r hr).trans g.nam⟩)).more ?_ (Nat.le_refl _)
  have := g.nam.length_le
  rw [List.length_map] at this
  have : m.length ≤ 10 := this
  omega
open Classical in
theorem req_some {m : Man} {d : PyData} (h : ∀ x ∈ nms m, nameS x = true) : reqB m d = someB (nms m) d := by
  unfold reqB someB
  refine decide_eq_decide.mpr ⟨?_, ?_⟩
  · rintro ⟨r, e, _, a, b⟩
    exact ⟨r, e, a, b⟩
  · rintro ⟨r, e, a, b⟩
    exact ⟨r, e, fun x hx => h x (b x hx), a, b⟩
def spReqR : PSp := fun ss κ => ∃ (n : Nat) (m : Man), ss = [.own true (.hand n), .val (manD m)] ∧ GoodM m ∧ 1500 ≤ n ∧ ∀ n' : Nat, n - 1500 ≤ n' → κ (.bool true) [.own true (.hand n'), .un]
end
end L2.Pu

set_option Elab.async false
set_option linter.all false
set_option maxRecDepth 100000
set_option maxHeartbeats 4000000
namespace L2.Pu
open PySem PySem.Spec PyProof.Rows
section
variable {P : Program} {w : World} {K : PySem.W.Frag} {mg : Str → Option Value} {base : Heap} {τ : Tb}
def spRaised (cb : Addr) : SpL := fun φ ψ κ => φ (fun d => κ (.tuple [.str "told", d])) ∨ ψ (fun c d => c = cb ∧ κ (.tuple [.str "bad", d]))
theorem pf_L_raised {f : Addr} {fd : FuncData} (F : Fun K "_law_raised" "_law_raised" s_L_raised f fd) (hm : mg "_law_raised" = some (.ref f)) (hk : PySem.W.keepIn K (.ref f) = true) (hb : Binds K fd p_L_raised []) (z_ValueError : mg "ValueError" = none) (z_isinstance : mg "isinstance" = none) {C_BadRequest C_FeatureError C_BadUsers : Addr} (xf_BadRequest : ExF K C_BadRequest) (xg_BadRequest : mg "BadRequest" = some (.ref C_BadRequest)) (xg_FeatureError : mg "FeatureError" = some (.ref C_FeatureError)) (xg_BadUsers : mg "BadUsers" = some (.ref C_BadUsers)) (xm : PySem.W.exmOne K (.ref C_BadRequest) (.ref C_FeatureError) = some true)
    (x1 : PySem.W.kitOne K (.ref C_BadRequest) (.ref C_BadRequest) = some true) (x2 : PySem.W.kitOne K (.ref C_BadRequest) (.type "ValueError") = some true) (x3 : PySem.W.kitOne K (.ref C_BadRequest) (.ref C_BadUsers) = some false) : PFnL τ P w K mg base "_law_raised" (spRaised C_BadRequest) := by
  refine ⟨⟨f, fd, s_L_raised, n_L_raised, "_law_call", F, hm, hk, hb, sc_L_raised, rfl, .inl rfl, by decide, by decide, fun cdv A outer s H f' c q σc Φ Ψ act => ?_⟩⟩
  refine ⟨_, (qss_cons (qs_asg (qe_tup (qa_cons qe_non (qa_cons qe_non qa_nil))) (qg_tup rfl (qgs_cons (qg_name (i := 1) sc_L_raised.nd rfl (.inl rfl)) (qgs_cons (qg_name (i := 2) sc_L_raised.nd rfl (.inl rfl)) qgs_nil)) (glen_name (glen_name glen_nil))))
      (qss_cons (qs_or (qs_tryN (qss_one (qs_set (i := 2) sc_L_raised.nd rfl (.inl rfl) act.nor)))
      (qs_tryX (i := 3) rfl rfl rfl sc_L_raised.nd rfl rfl ⟨by rfl, by decide, .inl xg_FeatureError⟩ (fun _ _ _ tk => (qssr_here (qsr_set (i := 2) sc_L_raised.nd rfl (.inl rfl) (act.exc tk)))) (fun _ _ => (qss_one (qs_cpyX (i := 1) sc_L_raised.nd rfl (.inl rfl) (pv 3))))))
      (qss_cons (qs_if (qt_isNX (pv 1)) (qss_one (qs_ret (qe_tup (qa_cons qe_str (qa_cons (qe_var (pv 2)) qa_nil))))) qss_nil)
      (qss_cons (qs_set (i := 4) sc_L_raised.nd rfl (.inl rfl) (qe_and (qe_isX (K := K) rfl (by rfl) z_isinstance (pv 1) (pe_glob (v := .ref C_BadRequest) (by rfl) xg_BadRequest rfl) (.own _)) (qe_and (qe_isX (K := K) rfl (by rfl) z_isinstance (pv 1) (pe_bltn (v := .ty "ValueError") (u := .type "ValueError") (by rfl) z_ValueError (by decide +kernel) rfl) (.ty _)) (qe_one (qe_not (qe_isX (K := K) rfl (by rfl) z_isinstance (pv 1) (pe_glob (v := .ref C_BadUsers) (by rfl) xg_BadUsers rfl) (.own _)))))))
      (qss_one (qs_ret (qe_if (qt_truN (pv 4)) (qe_tup (qa_cons qe_str (qa_cons (qe_xval (K := K) rfl (pv 1)) qa_nil))) (qe_tup (qa_cons qe_str (qa_cons qe_non qa_nil)))))))))), fun vs κ h => ?_⟩
  rcases h with h | h
  · ((conv => whnf); repeat (refine And.intro (Eq.refl _) ?_; conv => whnf))
    refine .inl ?_
    ((conv => whnf); repeat (refine And.intro (Eq.refl _) ?_; conv => whnf))
    refine ⟨_, h, fun d hd => ?_⟩
    ((conv => whnf); repeat (refine And.intro (Eq.refl _) ?_; conv => whnf))
    exact hd
  · ((conv => whnf); repeat (refine And.intro (Eq.refl _) ?_; conv => whnf))
    refine .inr ?_
    ((conv => whnf); repeat (refine And.intro (Eq.refl _) ?_; conv => whnf))
    refine ⟨_, h, fun c2 d hd => ?_⟩
    obtain ⟨rfl, hd⟩ := hd
    ((conv => whnf); repeat (refine And.intro (Eq.refl _) ?_; conv => whnf))
    refine ⟨xm, ?_⟩
    ((conv => whnf); repeat (refine And.intro (Eq.refl _) ?_; conv => whnf))
    refine ⟨true, xf_BadRequest, x1, ?_⟩
    ((conv => whnf); repeat (refine And.intro (Eq.refl _) ?_; conv => whnf))
    refine ⟨true, xf_BadRequest, x2, ?_⟩
    ((conv => whnf); repeat (refine And.intro (Eq.refl _) ?_; conv => whnf))
    refine ⟨false, xf_BadRequest, x3, ?_⟩
    ((conv => whnf); repeat (refine And.intro (Eq.refl _) ?_; conv => whnf))
    refine ⟨xf_BadRequest, ?_⟩
    exact hd
def spClosureX (c : Addr) : PSx := fun ss ε => ∃ (m : Man) (d : PyData), ss = [.val (manD m), .val d] ∧ SeenT d ∧ reqB m d = false ∧ ε c d [.un, .un]
theorem pf_closureX {f : Addr} {fd : FuncData} (F : Fun K "closure" "closure" s_closure f fd) (hm : mg "closure" = some (.ref f)) (hk : PySem.W.keepIn K (.ref f) = true) (hb : Binds K fd p_closure []) {C_BadRequest : Addr} (xi_BadRequest : ExI P w K mg base "BadRequest" C_BadRequest) (G_is_request : PFn τ P w K mg base 3 "is_request" p_is_request spIsReq) : PFnX τ P w K mg base 4 "closure" p_closure (spClosureX C_BadRequest) := by
  refine fn_ofX F hm hk hb sc_closure (fun ss ε h => by obtain ⟨m, d, rfl, _⟩ := h; rfl) fun cdv A outer s H E gd hr tk => ?_
  refine ⟨_, (qssr_here (qsr_if (qt_not (qt_val (qe_call G_is_request gd (hr.mono (by omega)) (by rfl) (qc_e (qe_var (pv 0)) (qc_e (qe_var (pv 1)) qc_nil)) (apart_of (by decide))))) (qssr_here (qsr_raise tk rfl xi_BadRequest (hr.mono (by omega)) (by rfl) (qe_var (pv 1)))) qssr_no)), fun ss ε h => ?_⟩
  obtain ⟨m, d, rfl, sd, hq, k⟩ := h
  ((conv => whnf); repeat (refine And.intro (Eq.refl _) ?_; conv => whnf))
  refine ⟨m, d, rfl, sd, ?_⟩
  ((conv => whnf); repeat (refine And.intro (Eq.refl _) ?_; conv => whnf))
  rw [hq]
  ((conv => whnf); repeat (refine And.intro (Eq.refl _) ?_; conv => whnf))
  exact k
end
end L2.Pu

set_option Elab.async false
set_option linter.all false
set_option maxRecDepth 100000
set_option maxHeartbeats 4000000
namespace L2.Pu
open PySem PySem.Spec PyProof.Rows
section
variable {P : Program} {w : World} {K : PySem.W.Frag} {mg : Str → Option Value} {base : Heap} {τ : Tb}
def spLSubs2 : PSp := fun ss κ => ∃ names : List Str, ss = [.val (strsL names)] ∧ names.length ≤ 10 ∧ κ (.list ((subsD names).map tupS)) [.un]
theorem pf_L_subsets2 {f : Addr} {fd : FuncData} (F : Fun K "_law_subsets" "_law_subsets" s_L_subsets f fd) (hm : mg "_law_subsets" = some (.ref f)) (hk : PySem.W.keepIn K (.ref f) = true) (hb : Binds K fd p_L_subsets []) : PFn τ P w K mg base 1 "_law_subsets" p_L_subsets spLSubs2 := by
  refine fn_ofC F hm hk hb sc_L_subsets (fun ss κ h => by obtain ⟨m, rfl, _⟩ := h; rfl) fun cdv A outer s H E code gd hr => ?_
  refine ⟨_, (qss_cons (qs_set (i := 1) sc_L_subsets.nd rfl (.inl rfl) (qe_list (qa_cons (qe_tup qa_nil) qa_nil)))
      (qss_cons (qs_for PassesOwn.never rfl (qi_any (qe_var (pv 0))) (qg_name (i := 2) sc_L_subsets.nd rfl (.inr rfl)) (qss_one (qs_set (i := 1) sc_L_subsets.nd rfl (.inl rfl) (qe_add (qe_var (pv 1)) (qe_of (qf_lc (own := [("_law_some_here", 3)]) rfl sc_L_subsets.nd (qi_any (qe_var (pv 1))) (blkOk_by (N := n_L_subsets) (sc := defScope s_L_subsets) (by decide +kernel)) (fun _ _ _ _ _ => (qv_name (i := 3) sc_L_subsets.nd rfl (.inl rfl) (by decide))) (fun _ _ _ _ _ => qts_nil) (fun _ _ _ _ _ => (qe_add (qe_var (pv 3)) (qe_tup (qa_cons (qe_var (pv 2)) qa_nil))))))))))
      (qss_one (qs_ret (qe_var (pv 1)))))), fun ss κ h => ?_⟩
  obtain ⟨names, rfl, hl, k⟩ := h
  refine forL_by (fun ds ρ => ∃ done rest s2, names = done ++ rest ∧ ds = rest.map PyData.str ∧ ρ = [.val (strsL names), .val (.list ((subsD done).map tupS)), s2, .un]) ?_ ?_ _ _ ⟨[], names, .un, rfl, rfl, rfl⟩
  · rintro ρ ⟨done, rest, s2, e, hd, rfl⟩
    cases rest with
    | cons => cases hd
    | nil =>
      rw [List.append_nil] at e; subst e
      exact k
  · rintro d ds ρ ⟨done, rest, s2, e, hd, rfl⟩
    cases rest with
    | nil => cases hd
    | cons x rest =>
      cases hd
      have dl : done.length + 1 ≤ 10 := by rw [e] at hl; simp at hl; omega
      refine lcL_map (ds := (subsD done).map tupS) (ρ := [.val (strsL names), .val (.list ((subsD done).map tupS)), .val (.str x), .un]) (tailD x) (fun d => rfl) (fun d hd k => ?_) ?_
      · obtain ⟨r, hr, rfl⟩ := List.mem_map.mp hd
        have := subsD_short hr
        exact fun h => ⟨by simp; omega, h⟩
      · refine ⟨?_, done ++ [x], rest, .val (.str x), by rw [e, List.append_assoc]; rfl, rfl, ?_⟩
        · rw [List.length_map, List.length_map, List.length_map, subsD_len]
          have : 2 ^ done.length ≤ 2 ^ 10 := Nat.pow_le_pow_right (by decide) (by omega)
          omega
        · have : (subsD (done ++ [x])).map tupS = (subsD done).map tupS ++ ((subsD done).map tupS).map (tailD x) := by
            rw [subsD_snoc, List.map_append, List.map_map, List.map_map]
            congr 1
            refine List.map_congr_left fun r _ => ?_
            show tupS (r ++ [x]) = tailD x (tupS r)
            unfold tupS tailD
            rw [List.map_append]; rfl
          rw [this]; rfl
end
end L2.Pu

set_option Elab.async false
set_option linter.all false
set_option maxRecDepth 100000
set_option maxHeartbeats 4000000
namespace L2.Pu
open PySem PySem.Spec PyProof.Rows
section
variable {P : Program} {w : World} {K : PySem.W.Frag} {mg : Str → Option Value} {base : Heap} {τ : Tb}
theorem le_self (d : PyData) : PySem.W.dataLt d d = false := by
  have h := (PySem.W.sortLe_total (listOrd PyProof.Rows.itemOrd) false fun b : PyData => PySem.W.keyToks b).total d d
  have h : PySem.W.sortLe (listOrd PyProof.Rows.itemOrd) false (fun b : PyData => PySem.W.keyToks b) d d = true := h.elim id id
  simpa [PySem.W.sortLe, PySem.W.dataLt] using h
theorem leR_tup {a b : List Str} (h : a.length = b.length) : leR a b = PySem.W.dataLe false id (tupS a) (tupS b) := by
  have e : leR a b = !PySem.W.dataLt (keyOfR b) (keyOfR a) := rfl
  have e2 : PySem.W.dataLe false id (tupS a) (tupS b) = !PySem.W.dataLt (tupS b) (tupS a) := rfl
  rw [e, e2]
  unfold keyOfR
  rw [PySem.W.dataLt_pair (by simp [PySem.W.alike]) (by simp only [PySem.W.alike]; exact alike_strs _ _), if_pos (by rw [h]; simp [PyData.eqv])]
  by_cases q : PyData.eqv (.tuple (b.map PyData.str)) (.tuple (a.map PyData.str)) = true
  · have : b = a := of_decide_eq_true (by rw [← eqv_tupS]; exact q)
    subst this
    rw [if_pos q]
    unfold tupS
    rw [le_self]
  · rw [if_neg q]; rfl
theorem sortD_tup {L : List (List Str)} {k : Nat} (h : ∀ a ∈ L, a.length = k) : sortD (L.map tupS) = (sortR L).map tupS := by
  unfold sortD sortR
  exact (List.map_mergeSort (r := leR) (s := PySem.W.dataLe false id) (f := tupS) fun a ha b hb => leR_tup ((h a ha).trans (h b hb).symm)).symm
theorem sortOk_tup {L : List (List Str)} {k : Nat} (h : ∀ a ∈ L, a.length = k) (nd : L.Nodup) : SortOk (L.map tupS) := by
  refine ⟨PySem.W.AllAlike.of fun a b => ?_, ?_, fun d hd => ?_⟩
  · unfold tupS; simp only [PySem.W.alike]; exact alike_strs _ _
  · cases k with
    | zero =>
      refine .inr ⟨?_, fun d hd => ?_⟩
      · rw [List.length_map]
        match L, h, nd with
        | [], _, _ => exact Nat.zero_le _
        | [_], _, _ => exact Nat.le_refl _
        | a :: b :: L, h, nd =>
          have ha := List.length_eq_zero_iff.mp (h a List.mem_cons_self)
          have hb := List.length_eq_zero_iff.mp (h b (List.mem_cons_of_mem _ List.mem_cons_self))
          exact absurd (show a ∈ b :: L by rw [ha, hb]; exact List.mem_cons_self) (List.nodup_cons.mp nd).1
      · obtain ⟨a, _, rfl⟩ := List.mem_map.mp hd
        exact fun z => nomatch z
    | succ k =>
      refine .inl (.inl fun d hd => ?_)
      obtain ⟨a, ha, rfl⟩ := List.mem_map.mp hd
      cases a with
      | nil => cases h _ ha
      | cons x r => exact ⟨_, _, rfl⟩
  · obtain ⟨a, ma, rfl⟩ := List.mem_map.mp hd
    refine ⟨?_, ?_⟩
    · unfold tupS; rw [PyData.hasDict]; clear hd ma; induction a with
      | nil => rfl
      | cons x a ih => simp only [List.map_cons, PyData.hasDictAll, PyData.hasDict, ih, Bool.or_self]
    · unfold tupS; simp only [PyData.depth, depth_strs]; omega
noncomputable def knwL (m : Man) : List (List Str × PyData) := (subsD (nms m)).map fun s => (s, tupS (clo m s))
def spLLeast : PSp := fun ss κ => ∃ (m : Man) (r : List Str), ss = [.val (manD m), .val (dtD (knwL m)), .val (tupS (clo m r))] ∧ Wf m ∧ okS (nms m) ∧ (nms m).length ≤ 10 ∧ r.Sublist (nms m) ∧ κ (.tuple ((leastL m r).map tupS)) [.un, .un, .un]
theorem knw_keys (m : Man) : ((knwL m).map fun e => (PyData.tuple (e.1.map PyData.str), e.2)).map (·.1) = (subsD (nms m)).map tupS := by
  rw [dtD_keys]
  unfold knwL
  rw [List.map_map]
  rw [List.map_map]
  exact List.map_congr_left fun s _ => rfl
open Classical in
theorem pf_L_least {f : Addr} {fd : FuncData} (F : Fun K "_law_least" "_law_least" s_L_least f fd) (hm : mg "_law_least" = some (.ref f)) (hk : PySem.W.keepIn K (.ref f) = true) (hb : Binds K fd p_L_least []) (z_len : mg "len" = none) (z_min : mg "min" = none) (z_sorted : mg "sorted" = none) (z_tuple : mg "tuple" = none) : PFn τ P w K mg base 1 "_law_least" p_L_least spLLeast := by
  refine fn_ofC F hm hk hb sc_L_least (fun ss κ h => by obtain ⟨m, d, rfl, _⟩ := h; rfl) fun cdv A outer s H E code gd hr => ?_
  refine ⟨_, (qss_cons (qs_setLc (i := 3) (own := [("_law_one", 5)]) rfl sc_L_least.nd rfl rfl rfl (qi_any (qe_var (pv 1))) (blkOk_by (N := n_L_least) (sc := defScope s_L_least) (by decide +kernel)) (fun _ _ _ _ _ => (qv_name (i := 5) sc_L_least.nd rfl (.inl rfl) (by decide))) (fun _ _ _ _ _ => (qts_one (qt_eq (ru64 hr) (qe_getT (ru1 hr) (qe_var (pv 1)) (qe_var (pv 5))) (qe_var (pv 2))))) (fun _ _ _ _ _ => (qe_var (pv 5))))
      (qss_cons (qs_set (i := 4) sc_L_least.nd rfl (.inr rfl) (qe_min rfl (by rfl) z_min (qb_e (qe_of (qf_lc (own := [("_law_one", 5)]) rfl sc_L_least.nd (qi_any (qe_var (pv 3))) (blkOk_by (N := n_L_least) (sc := defScope s_L_least) (by decide +kernel)) (fun _ _ _ _ _ => (qv_name (i := 5) sc_L_least.nd rfl (.inl rfl) (by decide))) (fun _ _ _ _ _ => qts_nil) (fun _ _ _ _ _ => (qe_len (by rfl) z_len (qb_e (qe_var (pv 5)) qb_nil))))) qb_nil)))
      (qss_one (qs_ret (qe_tuple (by rfl) z_tuple (qb_e (qe_of (qf_sortG (ru64 hr) (by rfl) z_sorted (qb_e (qe_of (qf_lc (own := [("_law_one", 5)]) rfl sc_L_least.nd (qi_any (qe_var (pv 3))) (blkOk_by (N := n_L_least) (sc := defScope s_L_least) (by decide +kernel)) (fun _ _ _ _ _ => (qv_name (i := 5) sc_L_least.nd rfl (.inl rfl) (by decide))) (fun _ _ _ _ _ => (qts_one (qt_eq (ru64 hr) (qe_len (by rfl) z_len (qb_e (qe_var (pv 5)) qb_nil)) (qe_var (pv 4))))) (fun _ _ _ _ _ => (qe_var (pv 5))))) qb_nil))) qb_nil)))))), fun ss κ h => ?_⟩
  obtain ⟨m, r, rfl, W, ok, few, sr, k⟩ := h
  ((conv => whnf); repeat (refine And.intro (Eq.refl _) ?_; conv => whnf))
  rw [knw_keys]
  refine lcL_filt (ρ := [.val (manD m), .val (dtD (knwL m)), .val (tupS (clo m r)), .un, .un, .un]) tupS tupS (fun s => decide (clo m s = clo m r)) (subsD (nms m)) (fun s hs K hK => ?_) ?_
  · ((conv => whnf); repeat (refine And.intro (Eq.refl _) ?_; conv => whnf))
    refine ⟨knwL m, s, tupS (clo m s), rfl, rfl, List.mem_map.mpr ⟨s, hs, rfl⟩, ?_⟩
    ((conv => whnf); repeat (refine And.intro (Eq.refl _) ?_; conv => whnf))
    refine ⟨shp_tupS fun x hx => ok x (clo_in W x hx), shp_tupS fun x hx => ok x (clo_in W x hx), ?_⟩
    ((conv => whnf); repeat (refine And.intro (Eq.refl _) ?_; conv => whnf))
    rw [eqv_tupS]
    cases hd : decide (clo m s = clo m r) with
    | true =>
      rw [hd] at hK
      ((conv => whnf); repeat (refine And.intro (Eq.refl _) ?_; conv => whnf))
      exact hK
    | false =>
      rw [hd] at hK
      ((conv => whnf); repeat (refine And.intro (Eq.refl _) ?_; conv => whnf))
      exact hK
  · have hS : ∀ s ∈ (subsD (nms m)).filter (fun s => decide (clo m s = clo m r)), s ∈ sameL m r := fun s hs => by
      obtain ⟨a, b⟩ := List.mem_filter.mp hs
      exact mem_sameL.mpr ⟨(subsD_sub _ _).mp a, of_decide_eq_true b⟩
    have hr : r ∈ (subsD (nms m)).filter (fun s => decide (clo m s = clo m r)) := List.mem_filter.mpr ⟨(subsD_sub _ _).mpr sr, decide_eq_true rfl⟩
    have nS : ((subsD (nms m)).filter (fun s => decide (clo m s = clo m r))).Nodup := (subsD_nodup _ (asc_nodup W.asc)).sublist List.filter_sublist
    have eS : sortR ((subsD (nms m)).filter (fun s => decide (clo m s = clo m r))) = sameL m r := by
      rw [sortR_filter]; rfl
    generalize (subsD (nms m)).filter (fun s => decide (clo m s = clo m r)) = S at hS hr nS eS ⊢
    have pS : ∀ s, s ∈ S ↔ s ∈ sameL m r := fun s => by rw [← eS, mem_sortR]
    ((conv => whnf); repeat (refine And.intro (Eq.refl _) ?_; conv => whnf))
    refine lcL_each (ρ := [.val (manD m), .val (dtD (knwL m)), .val (tupS (clo m r)), .val (.list (S.map tupS)), .un, .un]) tupS (fun s => .int (s.length : Nat)) S (fun s hs K hK => ?_) ?_
    · ((conv => whnf); repeat (refine And.intro (Eq.refl _) ?_; conv => whnf))
      rw [show (s.map PyData.str).length = s.length from List.length_map _]
      exact hK
    · ((conv => whnf); repeat (refine And.intro (Eq.refl _) ?_; conv => whnf))
      refine ⟨S.map fun s => ((s.length : Nat) : Int), by rw [List.map_map]; rfl, by rw [List.length_map]; exact List.length_pos_of_mem hr, fun c hc hle => ?_⟩
      obtain ⟨t0, e0, _⟩ := same_first (hS r hr)
      have ht0 : t0 ∈ S := (pS t0).mpr (List.mem_of_getElem? e0)
      have ec : c = (t0.length : Nat) := by
        obtain ⟨s, hs, rfl⟩ := List.mem_map.mp hc
        have h1 := hle _ (List.mem_map.mpr ⟨t0, ht0, rfl⟩)
        obtain ⟨t1, e1, h2⟩ := same_first (hS s hs)
        rw [e0] at e1
        cases e1
        simp only [Bool.false_eq_true, if_false] at h1
        omega
      subst ec
      ((conv => whnf); repeat (refine And.intro (Eq.refl _) ?_; conv => whnf))
      refine lcL_filt (ρ := [.val (manD m), .val (dtD (knwL m)), .val (tupS (clo m r)), .val (.list (S.map tupS)), .val (.int (t0.length : Nat)), .un]) tupS tupS (fun s => decide (s.length = t0.length)) S (fun s hs K hK => ?_) ?_
      · ((conv => whnf); repeat (refine And.intro (Eq.refl _) ?_; conv => whnf))
        have e1 : decide ((((s.map PyData.str).length : Nat) : Int) = (t0.length : Nat)) = decide (s.length = t0.length) := by
          rw [List.length_map]
          exact decide_eq_decide.mpr Int.ofNat_inj
        rw [e1]
        cases hd : decide (s.length = t0.length) with
        | true =>
          rw [hd] at hK
          ((conv => whnf); repeat (refine And.intro (Eq.refl _) ?_; conv => whnf))
          exact hK
        | false =>
          rw [hd] at hK
          ((conv => whnf); repeat (refine And.intro (Eq.refl _) ?_; conv => whnf))
          exact hK
      · ((conv => whnf); repeat (refine And.intro (Eq.refl _) ?_; conv => whnf))
        have hk : ∀ a ∈ S.filter (fun s => decide (s.length = t0.length)), a.length = t0.length := fun a ha => of_decide_eq_true (List.mem_filter.mp ha).2
        refine ⟨sortOk_tup hk (nS.sublist List.filter_sublist), ?_⟩
        rw [sortD_tup hk, sortR_filter, eS]
        ((conv => whnf); repeat (refine And.intro (Eq.refl _) ?_; conv => whnf))
        have el : leastL m r = (sameL m r).filter fun s => decide (s.length = t0.length) := by
          unfold leastL
          rw [e0]
          exact List.filter_congr fun s _ => decide_eq_decide.mpr Iff.rfl
        rw [el] at k
        exact k
def spLeastX (c : Addr) : PSx := fun ss ε => ∃ (m : Man) (d : PyData), ss = [.val (manD m), .val d] ∧ SeenT d ∧ reqB m d = false ∧ ε c d [.un, .un]
theorem pf_least_requestsX {f : Addr} {fd : FuncData} (F : Fun K "least_requests" "least_requests" s_least_requests f fd) (hm : mg "least_requests" = some (.ref f)) (hk : PySem.W.keepIn K (.ref f) = true) (hb : Binds K fd p_least_requests []) {C_BadRequest : Addr} (GX_closure : PFnX τ P w K mg base 4 "closure" p_closure (spClosureX C_BadRequest)) : PFnX τ P w K mg base 5 "least_requests" p_least_requests (spLeastX C_BadRequest) := by
  refine fn_ofX F hm hk hb sc_least_requests (fun ss ε h => by obtain ⟨m, d, rfl, _⟩ := h; rfl) fun cdv A outer s H E gd hr tk => ?_
  refine ⟨_, (qssr_here (qsr_set (i := 2) sc_least_requests.nd rfl (.inr rfl) (qer_call tk GX_closure gd (hr.mono (by omega)) (by rfl) (qc_e (qe_var (pv 0)) (qc_e (qe_var (pv 1)) qc_nil)) (apart_of (by decide))))), fun ss ε h => ?_⟩
  obtain ⟨m, d, rfl, sd, hq, k⟩ := h
  ((conv => whnf); repeat (refine And.intro (Eq.refl _) ?_; conv => whnf))
  refine ⟨m, d, rfl, sd, hq, ?_⟩
  exact k
end
end L2.Pu

set_option Elab.async false
set_option linter.all false
set_option maxRecDepth 100000
set_option maxHeartbeats 4000000
namespace L2.Pu
open PySem PySem.Spec PyProof.Rows
section
variable {P : Program} {w : World} {K : PySem.W.Frag} {mg : Str → Option Value} {base : Heap} {τ : Tb}
open Classical in
theorem req_of8 {m : Man} (g : GoodM m) {d : PyData} (h : reqB m d = true) : ∃ r, d = tupS r ∧ Req m r := by
  unfold reqB at h
  obtain ⟨r, e, a, b, c⟩ := of_decide_eq_true h
  exact ⟨r, e, a, b, c, by have := nodup_le (asc_nodup b) c; have := g.few; omega⟩
theorem th_tups : ∀ {L : List (List Str)}, (∀ r ∈ L, r.Sublist ten) → ThAll (L.map tupS) (38 * L.length) 1
  | [], _ => ThAll.nil
  | r :: L, h => by
    have h1 := h r List.mem_cons_self
    have := th_tups fun q hq => h q (List.mem_cons_of_mem _ hq)
    refine thAll_cons.mpr ⟨36, th_tupS h1, ?_, ?_⟩
    · refine this.more ?_ (Nat.le_refl _)
      rw [List.length_cons]; omega
    · rw [List.length_cons]; omega
theorem th_least {m : Man} (g : GoodM m) (r : List Str) : Th (.tuple [.str "told", .tuple ((leastL m r).map tupS)]) 40000 3 := by
  have l1 : (leastL m r).length ≤ 1024 := by
    have h1 : (leastL m r).length ≤ (sortR (subsD (nms m))).length := by
      unfold leastL sameL
      exact Nat.le_trans (List.length_filter_le _ _) (List.length_filter_le _ _)
    have h2 : (sortR (subsD (nms m))).length = 2 ^ (nms m).length := by
      unfold sortR
      rw [List.length_mergeSort, subsD_len]
    have := g.few
    have : 2 ^ (nms m).length ≤ 2 ^ 10 := Nat.pow_le_pow_right (by decide) (by omega)
    omega
  have hs : ∀ s ∈ leastL m r, s.Sublist ten := fun s hs => ((mem_leastL.mp hs).1.1).trans g.nam
  have t1 : Th (.tuple ((leastL m r).map tupS)) 38912 2 := (th_tup (th_tups hs)).more (show 38 * (leastL m r).length ≤ 38912 by omega) (Nat.le_refl _)
  exact (th_tup (((thC_th (n := 10) (k := 0) (d := .str "told") (by decide +kernel)).one.more (Nat.le_refl _) (by decide)).app t1.one)).more (by decide) (by decide)
theorem twice8 {r : List Str} (h : r.Sublist ten) : Th (.tuple (List.replicate 2 (cutD (r.map PyData.str) none (some 1))).flatten) 100 3 := by
  have e2 : (List.replicate 2 (cutD (r.map PyData.str) none (some 1))).flatten = cutD (r.map PyData.str) none (some 1) ++ cutD (r.map PyData.str) none (some 1) := by
    simp [List.replicate]
  rw [e2]
  have a := (th_names h).sub (cut_sub (r.map PyData.str) none (some 1))
  exact (th_tup (a.app a)).more (by decide) (by decide)
theorem pf_law {f : Addr} {fd : FuncData} (F : Fun K "law" "law" s_law f fd) (hm : mg "law" = some (.ref f)) (hk : PySem.W.keepIn K (.ref f) = true) (hb : Binds K fd p_law []) (z_dict : mg "dict" = none) (z_len : mg "len" = none) (z_list : mg "list" = none) (z_max : mg "max" = none) (z_min : mg "min" = none) (z_range : mg "range" = none) (z_repr : mg "repr" = none) (z_tuple : mg "tuple" = none) (hsys : SysB base) (LF : LamFn τ K mg base f "law.<locals>.<lambda>") (G_L_hand : PFnH P w K mg base 1 "_law_hand" p_L_hand) (G_L_take : PFn τ P w K mg base 1 "_law_take" p_L_take spTake) (G_L_some : PFn τ P w K mg base 2 "_law_some" p_L_some spSome) (G_L_odd : PFn τ P w K mg base 3 "_law_odd" p_L_odd spOdd) (G_L_manifest : PFn τ P w K mg base 3 "_law_manifest" p_L_manifest spManifest) {C_BadRequest : Addr} (GL_L_raised : PFnL τ P w K mg base "_law_raised" (spRaised C_BadRequest)) (G_L_subsets : PFn τ P w K mg base 1 "_law_subsets" p_L_subsets spLSubs2) (G_L_is_some_of : PFn τ P w K mg base 1 "_law_is_some_of" p_L_is_some_of spSomeOf) (G_L_closed : PFn τ P w K mg base 1 "_law_closed" p_L_closed spLClosed)
    (G_L_least : PFn τ P w K mg base 1 "_law_least" p_L_least spLLeast) (G_least_requests : PFn τ P w K mg base 5 "least_requests" p_least_requests spLeast) (GX_least_requests : PFnX τ P w K mg base 5 "least_requests" p_least_requests (spLeastX C_BadRequest)) : Fu.FnG P w K mg base CX0 8 f fd p_law (liftP ⟨P, w, K, τ, base⟩ spLawP) := by
  refine fn_ofL F sc_law (fun ss κ h => by obtain ⟨m, rfl, _⟩ := h; rfl) fun cdv A outer s H E code gd hr => ?_
  obtain ⟨c, Pt, hc, tb, me, un⟩ := LF.ex
  obtain rfl := hc cdv code
  have O : OwnTab τ (cxOf CX0 P w K mg base n_law "law" (defScope s_law) f (.ref c) A outer s H E).nox c Pt := ⟨tb, rfl, me, un⟩
  refine ⟨_, (qss_cons (qs_for PassesOwn.never rfl (qi_range1 (by rfl) z_range (qa_cons (qe_max2 rfl (by rfl) z_max (qb_e qe_int (qb_e (qe_min2 rfl (by rfl) z_min (qb_e qe_int (qb_e (qe_lenScr (by rfl) z_len (pv 0)) qb_nil))) qb_nil))) qa_nil)) (qg_name (i := 1) sc_law.nd rfl (.inl rfl)) (qss_cons (qs_setO (i := 2) sc_law.nd rfl (.inr rfl) (qf_hand G_L_hand gd (hr.mono (by omega)) (by rfl) (pv 0) (qe_var (pv 1))))
      (qss_one (qs_for PassesOwn.never rfl (qi_range1 (by rfl) z_range (qa_cons qe_int qa_nil)) (qg_name (i := 3) sc_law.nd rfl (.inl rfl)) (qss_cons (qs_set (i := 9) sc_law.nd rfl (.inr rfl) (qe_call G_L_manifest gd (hr.mono (by omega)) (by rfl) (qc_r (pv 2) (qc_e (qe_call G_L_take gd (hr.mono (by omega)) (by rfl) (qc_r (pv 2) (qc_e qe_int qc_nil)) (apart_of (by decide))) qc_nil)) (apart_of (by decide))))
      (qss_cons (qs_parN rfl (gn_cons (i := 4) sc_law.nd rfl (.inr rfl) (gn_cons (i := 5) sc_law.nd rfl (.inl rfl) gn_nil)) (qm_e (qe_of (qf_lc (own := [("_law_name", 11), ("_law_implied", 12)]) rfl sc_law.nd (qi_any (qe_var (pv 9))) (blkOk_by (N := n_law) (sc := defScope s_law) (by decide +kernel)) (fun _ _ _ _ _ => (qv_tup rfl (qvs_cons (qv_name (i := 11) sc_law.nd rfl (.inl rfl) (by decide)) (qvs_cons (qv_name (i := 12) sc_law.nd rfl (.inl rfl) (by decide)) qvs_nil)) (glen_name (glen_name glen_nil)))) (fun _ _ _ _ _ => qts_nil) (fun _ _ _ _ _ => (qe_var (pv 11))))) (qm_e (qe_reprA hsys gd (ru64 hr) (by rfl) z_repr (qe_var (pv 9))) qm_nil)))
      (qss_cons (qs_set (i := 6) sc_law.nd rfl (.inl rfl) (qe_dictZ rfl (ru2 hr) (by rfl) z_dict (qb_e (qe_of (qf_lc (own := [("_law_some_here", 13)]) rfl sc_law.nd (qi_any (qe_call G_L_subsets gd (hr.mono (by omega)) (by rfl) (qc_e (qe_var (pv 4)) qc_nil) (apart_of (by decide)))) (blkOk_by (N := n_law) (sc := defScope s_law) (by decide +kernel)) (fun _ _ _ _ _ => (qv_name (i := 13) sc_law.nd rfl (.inl rfl) (by decide))) (fun _ _ _ _ _ => qts_nil) (fun _ _ _ _ _ => (qe_tup (qa_cons (qe_var (pv 13)) (qa_cons (qe_call G_L_closed gd (hr.mono (by omega)) (by rfl) (qc_e (qe_var (pv 9)) (qc_e (qe_var (pv 13)) qc_nil)) (apart_of (by decide))) qa_nil)))))) qb_nil)))
      (qss_cons (qs_set (i := 7) sc_law.nd rfl (.inl rfl) (qe_add (qe_list (qa_cons (qe_tup qa_nil) (qa_cons (qe_tuple (by rfl) z_tuple (qb_e (qe_var (pv 4)) qb_nil)) qa_nil))) (qe_of (qf_lc (own := [("_law_again", 14)]) rfl sc_law.nd (qi_range1 (by rfl) z_range (qa_cons qe_int qa_nil)) (blkOk_by (N := n_law) (sc := defScope s_law) (by decide +kernel)) (fun _ _ _ _ _ => (qv_name (i := 14) sc_law.nd rfl (.inl rfl) (by decide))) (fun _ _ _ _ _ => qts_nil) (fun _ _ _ _ _ => (qe_call G_L_some gd (hr.mono (by omega)) (by rfl) (qc_r (pv 2) (qc_e (qe_var (pv 4)) (qc_e qe_int qc_nil))) (apart_of (by decide))))))))
      (qss_one (qs_for PassesOwn.never rfl (qi_any (qe_add (qe_var (pv 7)) (qe_list (qa_cons qe_non (qa_cons (qe_tup (qa_cons qe_str qa_nil)) (qa_cons (qe_call G_L_odd gd (hr.mono (by omega)) (by rfl) (qc_r (pv 2) qc_nil) (apart_of (by decide))) (qa_cons (qe_of (qf_listOf (by rfl) z_list (qb_e (qe_var (pv 4)) qb_nil))) (qa_cons (qe_tuple (by rfl) z_tuple (qb_e (qe_mulL (qe_slice (qe_var (pv 4)) qo_none (qo_some qe_int)) qe_int) qb_nil)) qa_nil)))))))) (qg_name (i := 10) sc_law.nd rfl (.inr rfl)) (qss_cons (qs_set (i := 8) sc_law.nd rfl (.inl rfl) (qe_tup (qa_cons qe_str (qa_cons (qe_var (pv 10)) qa_nil))))
      (qss_cons (qs_if (qt_val (qe_call G_L_is_some_of gd (hr.mono (by omega)) (by rfl) (qc_e (qe_var (pv 4)) (qc_e (qe_var (pv 10)) qc_nil)) (apart_of (by decide)))) (qss_one (qs_set (i := 8) sc_law.nd rfl (.inl rfl) (qe_tup (qa_cons qe_str (qa_cons (qe_call G_L_least gd (hr.mono (by omega)) (by rfl) (qc_e (qe_var (pv 9)) (qc_e (qe_var (pv 6)) (qc_e (qe_getT (ru1 hr) (qe_var (pv 6)) (qe_var (pv 10))) qc_nil))) (apart_of (by decide))) qa_nil))))) qss_nil)
      (qss_one (qs_if (qw_or (qt_ne (ru64 hr) (qe_reprA hsys gd (ru64 hr) (by rfl) z_repr (qe_lam (k := 5) GL_L_raised gd (hr.mono (by omega)) (by rfl) O (LamX.lamS_by (sc := defScope s_law) (by decide +kernel)) rfl (fun _ _ _ _ _ => rfl)
      (fun _ _ _ _ _ _ _ gd hr => (qe_call G_least_requests gd (hr.mono (by omega)) (by rfl) (qc_e (qe_var (pv 9)) (qc_e (qe_var (pv 10)) qc_nil)) (apart_of (by decide))))
      (fun _ _ _ _ _ _ _ gd hr tk => (qer_call tk GX_least_requests gd (hr.mono (by omega)) (by rfl) (qc_e (qe_var (pv 9)) (qc_e (qe_var (pv 10)) qc_nil)) (apart_of (by decide)))))) (qe_reprA hsys gd (ru64 hr) (by rfl) z_repr (qe_var (pv 8)))) (qw_or1 (qt_ne (ru64 hr) (qe_reprA hsys gd (ru64 hr) (by rfl) z_repr (qe_var (pv 9))) (qe_var (pv 5))))).pt (qss_one (qs_ret qe_bl)) qss_nil))))))))))))))
      (qss_one (qs_ret qe_bl))), fun ss κ h => ?_⟩
  obtain ⟨ns, rfl, hl, k⟩ := h
  ((conv => whnf); repeat (refine And.intro (Eq.refl _) ?_; conv => whnf))
  have e1 : ((fun i j : Int => if j > i then j else i) 1 ((fun i j : Int => if j < i then j else i) 3 (ns.length : Int))) ≤ 3 := by dsimp only; split <;> split <;> omega
  have e0 : 1 ≤ ((fun i j : Int => if j > i then j else i) 1 ((fun i j : Int => if j < i then j else i) 3 (ns.length : Int))) := by dsimp only; split <;> split <;> omega
  generalize ((fun i j : Int => if j > i then j else i) 1 ((fun i j : Int => if j < i then j else i) 3 (ns.length : Int))) = cells at e0 e1
  refine ⟨by omega, by omega, ?_⟩
  refine forL_by (fun ds ρ => (∀ d ∈ ds, ∃ i : Nat, d = .int i ∧ i ≤ 10) ∧ ∃ s1 s2 s3 s4 s5 s6 s7 s8 s9 s10 : Slot, ρ = [.scr ns, s1, s2, s3, s4, s5, s6, s7, s8, s9, s10, .un, .un, .un, .un]) ?_ ?_ _ _ ⟨fun d hd => ?_, .un, .un, .un, .un, .un, .un, .un, .un, .un, .un, rfl⟩
  · rintro ρ ⟨_, s1, s2, s3, s4, s5, s6, s7, s8, s9, s10, rfl⟩
    exact k
  · rintro d ds ρ ⟨hds, s1, s2, s3, s4, s5, s6, s7, s8, s9, s10, rfl⟩
    obtain ⟨j, rfl, hj⟩ := hds d List.mem_cons_self
    have hds' : ∀ d ∈ ds, ∃ i : Nat, d = .int i ∧ i ≤ 10 := fun d hd => hds d (List.mem_cons_of_mem _ hd)
    ((conv => whnf); repeat (refine And.intro (Eq.refl _) ?_; conv => whnf))
    refine ⟨⟨ns, rfl⟩, ?_⟩
    ((conv => whnf); repeat (refine And.intro (Eq.refl _) ?_; conv => whnf))
    refine ⟨by omega, by omega, ?_⟩
    ((conv => whnf); repeat (refine And.intro (Eq.refl _) ?_; conv => whnf))
    refine ⟨by decide, by decide, ?_⟩
    refine forL_by (fun ds ρ => ∃ (n' : Nat) (s3 s4 s5 s6 s7 s8 s9 s10 : Slot), 1000 * ds.length ≤ n' ∧ ρ = [.scr ns, .val (.int j), .own false (.hand n'), s3, s4, s5, s6, s7, s8, s9, s10, .un, .un, .un, .un]) ?_ ?_ _ _ ⟨900000000, s3, s4, s5, s6, s7, s8, s9, s10, by simp [rngD], rfl⟩
    · rintro ρ ⟨n', t3, t4, t5, t6, t7, t8, t9, t10, _, rfl⟩
      exact ⟨hds', _, _, _, _, _, _, _, _, _, _, rfl⟩
    · rintro lv ds2 ρ ⟨n', t3, t4, t5, t6, t7, t8, t9, t10, hn', rfl⟩
      rw [List.length_cons] at hn' 
      obtain ⟨n', rfl⟩ : ∃ z, n' = z + 1 := ⟨n' - 1, by omega⟩
      ((conv => whnf); repeat (refine And.intro (Eq.refl _) ?_; conv => whnf))
      refine ⟨by decide, by decide, fun x x0 x1 => ?_⟩
      obtain ⟨cc, rfl⟩ : ∃ c : Nat, x = c := ⟨x.toNat, by omega⟩
      ((conv => whnf); repeat (refine And.intro (Eq.refl _) ?_; conv => whnf))
      refine ⟨n', cc, rfl, by omega, by omega, fun m n1 g lm hn1 => ?_⟩
      have W := g.wf
      have few := g.few
      have nn : ∀ x ∈ nms m, nameS x = true := fun x hx => ten_name x (g.nam.subset hx)
      have fm : FitA (manD m) := (th_man g).fit (by decide) (by decide)
      ((conv => whnf); repeat (refine And.intro (Eq.refl _) ?_; conv => whnf))
      refine lcL_each (ρ := [.scr ns, .val (.int j), .own false (.hand n1), .val lv, t4, t5, t6, t7, t8, .val (manD m), t10, .un, .un, .un, .un]) rowD (fun r => .str r.1) m (fun r hr K hK => hK) ?_
      rw [map_rowN]
      ((conv => whnf); repeat (refine And.intro (Eq.refl _) ?_; conv => whnf))
      refine ⟨fm, ?_⟩
      ((conv => whnf); repeat (refine And.intro (Eq.refl _) ?_; conv => whnf))
      refine ⟨nms m, rfl, by omega, ?_⟩
      ((conv => whnf); repeat (refine And.intro (Eq.refl _) ?_; conv => whnf))
      refine lcL_each (ρ := [.scr ns, .val (.int j), .own false (.hand n1), .val lv, .val (strsL (nms m)), .val (.str (manD m).shown), t6, t7, t8, .val (manD m), t10, .un, .un, .un, .un]) tupS (fun s => .tuple [tupS s, tupS (clo m s)]) (subsD (nms m)) (fun s hs K hK => ?_) ?_
      · have ss := (subsD_sub _ _).mp hs
        ((conv => whnf); repeat (refine And.intro (Eq.refl _) ?_; conv => whnf))
        refine ⟨m, s, rfl, W, g.ok, fun x hx => ss.subset hx, by have := ss.length_le; omega, ?_⟩
        exact hK
      ((conv => whnf); repeat (refine And.intro (Eq.refl _) ?_; conv => whnf))
      refine ⟨knwL m, by unfold knwL; rw [List.map_map]; rfl, ?_, ?_, ?_⟩
      · unfold knwL; rw [List.map_map]; exact (show ((subsD (nms m)).map id).Nodup by rw [List.map_id]; exact subsD_nodup _ (asc_nodup W.asc))
      · intro z
        have := congrArg List.length z
        unfold knwL at this
        rw [List.length_map, subsD_len] at this
        have h0 := Nat.two_pow_pos (nms m).length
        simp only [List.length_nil] at this
        omega
      ((conv => whnf); repeat (refine And.intro (Eq.refl _) ?_; conv => whnf))
      refine ⟨by decide, by decide, ?_⟩
      refine lcL_by (fun ds acc ρ => ∃ n' : Nat, n1 - 100 + 11 * ds.length ≤ n' ∧ acc.length + ds.length = 5 ∧ (∀ e ∈ acc, Th e 300 28) ∧ ρ = [.scr ns, .val (.int j), .own false (.hand n'), .val lv, .val (strsL (nms m)), .val (.str (manD m).shown), .val (dtD (knwL m)), t7, t8, .val (manD m), t10, .un, .un, .un, .un]) ?_ ?_ _ _ _ ⟨n1, by simp [rngD]; omega, by simp [rngD], (fun _ z => nomatch z), rfl⟩
      · rintro acc ρ ⟨n2, hn2, la, ta, rfl⟩
        simp only [List.length_nil, Nat.mul_zero, Nat.add_zero] at hn2 la
        ((conv => whnf); repeat (refine And.intro (Eq.refl _) ?_; conv => whnf))
        refine ⟨by rw [la]; simp only [List.length_cons, List.length_nil]; omega, ?_⟩
        have tT : ∀ d ∈ ([.tuple [], .tuple ((nms m).map PyData.str)] : List PyData) ++ acc, Th d 300 28 := fun d hd => by
          rcases List.mem_append.mp hd with hd | hd
          · simp only [List.mem_cons, List.not_mem_nil, or_false] at hd
            rcases hd with rfl | rfl
            · exact (thC_th (n := 10) (k := 1) (by decide +kernel)).more (by decide) (by decide)
            · exact (th_tupS g.nam).more (by decide) (by decide)
          · exact ta d hd
        have lT : (([.tuple [], .tuple ((nms m).map PyData.str)] : List PyData) ++ acc).length = 7 := by rw [List.length_append, la]; rfl
        generalize ([.tuple [], .tuple ((nms m).map PyData.str)] : List PyData) ++ acc = T0 at tT lT ⊢
        ((conv => whnf); repeat (refine And.intro (Eq.refl _) ?_; conv => whnf))
        refine ⟨n2, rfl, by omega, fun eo n3 to hn3 => ?_⟩
        ((conv => whnf); repeat (refine And.intro (Eq.refl _) ?_; conv => whnf))
        refine ⟨⟨by decide, by decide, by have h1 := List.Sublist.length_le (cut_sub ((nms m).map PyData.str) none (some 1)); rw [List.length_map] at h1; have h2 : (2 : Int).toNat = 2 := rfl; rw [h2]; omega⟩, ?_⟩
        ((conv => whnf); repeat (refine And.intro (Eq.refl _) ?_; conv => whnf))
        refine ⟨by simp only [List.length_cons, List.length_nil]; omega, ?_⟩
        have tA : ∀ d ∈ T0 ++ ([.none, .tuple [.str "q"], eo, .list ((nms m).map PyData.str), .tuple (List.replicate (Int.toNat 2) (cutD ((nms m).map PyData.str) none (some 1))).flatten] : List PyData), Th d 300 28 := fun d hd => by
          rcases List.mem_append.mp hd with hd | hd
          · exact tT d hd
          · simp only [List.mem_cons, List.not_mem_nil, or_false] at hd
            rcases hd with rfl | rfl | rfl | rfl | rfl
            · exact (thC_th (n := 10) (k := 1) (by decide +kernel)).more (by decide) (by decide)
            · exact (thC_th (n := 10) (k := 1) (by decide +kernel)).more (by decide) (by decide)
            · exact to.more (by decide) (by decide)
            · exact (th_lst (th_names g.nam)).more (by decide) (by decide)
            · exact (twice8 g.nam).more (by decide) (by decide)
        generalize T0 ++ ([.none, .tuple [.str "q"], eo, .list ((nms m).map PyData.str), .tuple (List.replicate (Int.toNat 2) (cutD ((nms m).map PyData.str) none (some 1))).flatten] : List PyData) = A2 at tA ⊢
        ((conv => whnf); repeat (refine And.intro (Eq.refl _) ?_; conv => whnf))
        refine forL_by (fun ds ρ => (∀ d ∈ ds, Th d 300 28) ∧ ∃ s8 s10 : Slot, ρ = [.scr ns, .val (.int j), .own false (.hand n3), .val lv, .val (strsL (nms m)), .val (.str (manD m).shown), .val (dtD (knwL m)), .val (.list T0), s8, .val (manD m), s10, .un, .un, .un, .un]) ?_ ?_ _ _ ⟨tA, _, _, rfl⟩
        · rintro ρ ⟨_, s8, s10, rfl⟩
          exact ⟨n3, _, _, _, _, _, _, _, _, by omega, rfl⟩
        · rintro d ds ρ ⟨hd, s8, s10, rfl⟩
          have td := hd d List.mem_cons_self
          have tb : Th (.tuple [.str "bad", d]) 400 30 := (th_tup (((thC_th (n := 10) (k := 0) (d := .str "bad") (by decide +kernel)).one.more (Nat.le_refl _) (by decide)).app td.one)).more (by decide) (by decide)
          have fb := tb.fit (by decide) (by decide)
          have er := req_some (d := d) nn
          ((conv => whnf); repeat (refine And.intro (Eq.refl _) ?_; conv => whnf))
          refine ⟨nms m, d, 300, 28, rfl, td, by decide, .inl (by decide), nn, by omega, ?_⟩
          cases hs : someB (nms m) d with
          | true =>
            obtain ⟨r, rfl, q⟩ := req_of8 g (er.trans hs)
            have ft := (th_least g r).fit (by decide) (by decide)
            have sr := sub_of_asc q.asc W.asc q.inn
            ((conv => whnf); repeat (refine And.intro (Eq.refl _) ?_; conv => whnf))
            refine ⟨knwL m, r, tupS (clo m r), rfl, rfl, List.mem_map.mpr ⟨r, (subsD_sub _ _).mpr sr, rfl⟩, ?_⟩
            ((conv => whnf); repeat (refine And.intro (Eq.refl _) ?_; conv => whnf))
            refine ⟨m, r, rfl, W, g.ok, few, sr, ?_⟩
            ((conv => whnf); repeat (refine And.intro (Eq.refl _) ?_; conv => whnf))
            refine .inl ?_
            ((conv => whnf); repeat (refine And.intro (Eq.refl _) ?_; conv => whnf))
            refine ⟨m, r, rfl, W, g.ok, q, ?_⟩
            ((conv => whnf); repeat (refine And.intro (Eq.refl _) ?_; conv => whnf))
            refine ⟨ft, ?_⟩
            ((conv => whnf); repeat (refine And.intro (Eq.refl _) ?_; conv => whnf))
            refine ⟨ft, ?_⟩
            ((conv => whnf); repeat (refine And.intro (Eq.refl _) ?_; conv => whnf))
            rw [decide_eq_true rfl]
            ((conv => whnf); repeat (refine And.intro (Eq.refl _) ?_; conv => whnf))
            refine ⟨fm, ?_⟩
            ((conv => whnf); repeat (refine And.intro (Eq.refl _) ?_; conv => whnf))
            rw [decide_eq_true rfl]
            ((conv => whnf); repeat (refine And.intro (Eq.refl _) ?_; conv => whnf))
            exact ⟨fun e he => hd e (List.mem_cons_of_mem _ he), _, _, rfl⟩
          | false =>
            ((conv => whnf); repeat (refine And.intro (Eq.refl _) ?_; conv => whnf))
            refine .inr ?_
            ((conv => whnf); repeat (refine And.intro (Eq.refl _) ?_; conv => whnf))
            refine ⟨m, d, rfl, td.seenT (by decide), er.trans hs, ?_⟩
            refine ⟨rfl, ?_⟩
            ((conv => whnf); repeat (refine And.intro (Eq.refl _) ?_; conv => whnf))
            refine ⟨fb, ?_⟩
            ((conv => whnf); repeat (refine And.intro (Eq.refl _) ?_; conv => whnf))
            refine ⟨fb, ?_⟩
            ((conv => whnf); repeat (refine And.intro (Eq.refl _) ?_; conv => whnf))
            rw [decide_eq_true rfl]
            ((conv => whnf); repeat (refine And.intro (Eq.refl _) ?_; conv => whnf))
            refine ⟨fm, ?_⟩
            ((conv => whnf); repeat (refine And.intro (Eq.refl _) ?_; conv => whnf))
            rw [decide_eq_true rfl]
            ((conv => whnf); repeat (refine And.intro (Eq.refl _) ?_; conv => whnf))
            exact ⟨fun e he => hd e (List.mem_cons_of_mem _ he), _, _, rfl⟩
      · rintro d ds acc ρ ⟨n2, hn2, la, ta, rfl⟩
        rw [List.length_cons] at hn2 la
        ((conv => whnf); repeat (refine And.intro (Eq.refl _) ?_; conv => whnf))
        refine ⟨n2, nms m, 2, rfl, by omega, by decide, by decide, fun ys n3 sy hn3 => ?_⟩
        ((conv => whnf); repeat (refine And.intro (Eq.refl _) ?_; conv => whnf))
        refine ⟨n3, by omega, by rw [List.length_append, List.length_singleton]; omega, fun z hz => ?_, rfl⟩
        rcases List.mem_append.mp hz with hz | hz
        · exact ta z hz
        · cases List.mem_singleton.mp hz; exact (th_tupS (sy.trans g.nam)).more (by decide) (by decide)
  · obtain ⟨i, rfl, hi⟩ := rng_mem hd
    exact ⟨i, rfl, by omega⟩
end
end L2.Pu

set_option Elab.async false
set_option linter.all false
set_option maxRecDepth 100000
set_option maxHeartbeats 4000000
namespace L2.Pu
open PySem PySem.Spec PyProof.Rows
open PySem.W (Frag findIn subIn typeIn keepIn hasDictIn specialIn takesIn mroIn kitOne excIn nsIn codeIn)
abbrev sI_BadRequest : Stmt := inClass (top 2) 0
theorem scI_BadRequest : FnScope ["self", "value"] ["self", "value"] (defScope sI_BadRequest) := ⟨rfl, rfl, rfl, by decide +kernel, rfl, by decide +kernel, by decide +kernel⟩
theorem all_mk {l : PySem.W.OpenLaw} {w : World} {K : Frag} {h : Heap} {mg : Str → Option Value} {fa : Addr} {C_FeatureError : Addr} {C_BadUsers : Addr} {C_BadRequest : Addr} {fI_BadRequest : Addr} {odI_BadRequest anI_BadRequest : Option Addr} {slI_BadRequest : Array (Option Value)} {ocI_BadRequest kVI_BadRequest dcI_BadRequest pmI_BadRequest cdI_BadRequest ctI_BadRequest : Value} {f_is_name f_are_ascending_names f_features_in f_is_request f_closed_over f_closure f_place_of f_subsets_of f_all_requests f_least_requests f_L_hand f_L_take f_L_of f_L_some f_L_names f_L_manifest f_L_odd f_L_is_some_of f_L_closed f_L_subsets f_L_raised f_L_least f_law : Addr} {cc_law pp_law : Addr} {ec_law : Value} {ed_law : Option Addr} {ev_law : Array Value} {es_law : Array (Option Value)} {t_LETTERS : Tok} {t_LONGEST_NAME : Tok}
    {od_is_name an_is_name od_are_ascending_names an_are_ascending_names od_features_in an_features_in od_is_request an_is_request od_closed_over an_closed_over od_closure an_closure od_place_of an_place_of od_subsets_of an_subsets_of od_all_requests an_all_requests od_least_requests an_least_requests od_L_hand an_L_hand od_L_take an_L_take od_L_of an_L_of od_L_some an_L_some od_L_names an_L_names od_L_manifest an_L_manifest od_L_odd an_L_odd od_L_is_some_of an_L_is_some_of od_L_closed an_L_closed od_L_subsets an_L_subsets od_L_raised an_L_raised od_L_least an_L_least od_law an_law : Option Addr}
    {sl_is_name sl_are_ascending_names sl_features_in sl_is_request sl_closed_over sl_closure sl_place_of sl_subsets_of sl_all_requests sl_least_requests sl_L_hand sl_L_take sl_L_of sl_L_some sl_L_names sl_L_manifest sl_L_odd sl_L_is_some_of sl_L_closed sl_L_subsets sl_L_raised sl_L_least sl_law : Array (Option Value)}
    {oc_is_name kV_is_name dc_is_name pm_is_name cd_is_name ct_is_name oc_are_ascending_names kV_are_ascending_names dc_are_ascending_names pm_are_ascending_names cd_are_ascending_names ct_are_ascending_names oc_features_in kV_features_in dc_features_in pm_features_in cd_features_in ct_features_in oc_is_request kV_is_request dc_is_request pm_is_request cd_is_request ct_is_request oc_closed_over kV_closed_over dc_closed_over pm_closed_over cd_closed_over ct_closed_over oc_closure kV_closure dc_closure pm_closure cd_closure ct_closure oc_place_of kV_place_of dc_place_of pm_place_of cd_place_of ct_place_of oc_subsets_of kV_subsets_of dc_subsets_of pm_subsets_of cd_subsets_of ct_subsets_of oc_all_requests kV_all_requests dc_all_requests pm_all_requests cd_all_requests ct_all_requests oc_least_requests kV_least_requests dc_least_requests pm_least_requests cd_least_requests ct_least_requests oc_L_hand kV_L_hand dc_L_hand pm_L_hand cd_L_hand ct_L_hand oc_L_take kV_L_take dc_L_take pm_L_take cd_L_take ct_L_take oc_L_of kV_L_of dc_L_of pm_L_of cd_L_of ct_L_of oc_L_some kV_L_some dc_L_some pm_L_some cd_L_some ct_L_some oc_L_names kV_L_names dc_L_names pm_L_names cd_L_names ct_L_names oc_L_manifest kV_L_manifest dc_L_manifest pm_L_manifest cd_L_manifest ct_L_manifest oc_L_odd kV_L_odd dc_L_odd pm_L_odd cd_L_odd ct_L_odd oc_L_is_some_of kV_L_is_some_of dc_L_is_some_of pm_L_is_some_of cd_L_is_some_of ct_L_is_some_of oc_L_closed kV_L_closed dc_L_closed pm_L_closed cd_L_closed ct_L_closed oc_L_subsets kV_L_subsets dc_L_subsets pm_L_subsets cd_L_subsets ct_L_subsets oc_L_raised kV_L_raised dc_L_raised pm_L_raised cd_L_raised ct_L_raised oc_L_least kV_L_least dc_L_least pm_L_least cd_L_least ct_L_least oc_law kV_law dc_law pm_law ct_law : Value}
    (X : K.In h) (G : h.Ns mainGlobals mg) (hfa : mg "law" = some (.ref fa))
    (a_is_name : nsIn K mainGlobals "is_name" = some (some (.ref f_is_name)))
    (l_is_name : K.lookup f_is_name = some ⟨oc_is_name, od_is_name, .func (PySem.W.fnOf "is_name" "is_name" (defArgs s_is_name) (defBody s_is_name) (defScope s_is_name) .none kV_is_name dc_is_name pm_is_name an_is_name cd_is_name ct_is_name), sl_is_name⟩)
    (c_is_name : codeIn K cd_is_name "is_name" = true)
    (k_is_name : keepIn K (.ref f_is_name) = true)
    (a_are_ascending_names : nsIn K mainGlobals "are_ascending_names" = some (some (.ref f_are_ascending_names)))
    (l_are_ascending_names : K.lookup f_are_ascending_names = some ⟨oc_are_ascending_names, od_are_ascending_names, .func (PySem.W.fnOf "are_ascending_names" "are_ascending_names" (defArgs s_are_ascending_names) (defBody s_are_ascending_names) (defScope s_are_ascending_names) .none kV_are_ascending_names dc_are_ascending_names pm_are_ascending_names an_are_ascending_names cd_are_ascending_names ct_are_ascending_names), sl_are_ascending_names⟩)
    (c_are_ascending_names : codeIn K cd_are_ascending_names "are_ascending_names" = true)
    (k_are_ascending_names : keepIn K (.ref f_are_ascending_names) = true)
    (a_features_in : nsIn K mainGlobals "features_in" = some (some (.ref f_features_in)))
    (l_features_in : K.lookup f_features_in = some ⟨oc_features_in, od_features_in, .func (PySem.W.fnOf "features_in" "features_in" (defArgs s_features_in) (defBody s_features_in) (defScope s_features_in) .none kV_features_in dc_features_in pm_features_in an_features_in cd_features_in ct_features_in), sl_features_in⟩)
    (c_features_in : codeIn K cd_features_in "features_in" = true)
    (k_features_in : keepIn K (.ref f_features_in) = true)
    (a_is_request : nsIn K mainGlobals "is_request" = some (some (.ref f_is_request)))
    (l_is_request : K.lookup f_is_request = some ⟨oc_is_request, od_is_request, .func (PySem.W.fnOf "is_request" "is_request" (defArgs s_is_request) (defBody s_is_request) (defScope s_is_request) .none kV_is_request dc_is_request pm_is_request an_is_request cd_is_request ct_is_request), sl_is_request⟩)
    (c_is_request : codeIn K cd_is_request "is_request" = true)
    (k_is_request : keepIn K (.ref f_is_request) = true)
    (a_closed_over : nsIn K mainGlobals "closed_over" = some (some (.ref f_closed_over)))
    (l_closed_over : K.lookup f_closed_over = some ⟨oc_closed_over, od_closed_over, .func (PySem.W.fnOf "closed_over" "closed_over" (defArgs s_closed_over) (defBody s_closed_over) (defScope s_closed_over) .none kV_closed_over dc_closed_over pm_closed_over an_closed_over cd_closed_over ct_closed_over), sl_closed_over⟩)
    (c_closed_over : codeIn K cd_closed_over "closed_over" = true)
    (k_closed_over : keepIn K (.ref f_closed_over) = true)
    (a_closure : nsIn K mainGlobals "closure" = some (some (.ref f_closure)))
    (l_closure : K.lookup f_closure = some ⟨oc_closure, od_closure, .func (PySem.W.fnOf "closure" "closure" (defArgs s_closure) (defBody s_closure) (defScope s_closure) .none kV_closure dc_closure pm_closure an_closure cd_closure ct_closure), sl_closure⟩)
    (c_closure : codeIn K cd_closure "closure" = true)
    (k_closure : keepIn K (.ref f_closure) = true)
    (a_place_of : nsIn K mainGlobals "place_of" = some (some (.ref f_place_of)))
    (l_place_of : K.lookup f_place_of = some ⟨oc_place_of, od_place_of, .func (PySem.W.fnOf "place_of" "place_of" (defArgs s_place_of) (defBody s_place_of) (defScope s_place_of) .none kV_place_of dc_place_of pm_place_of an_place_of cd_place_of ct_place_of), sl_place_of⟩)
    (c_place_of : codeIn K cd_place_of "place_of" = true)
    (k_place_of : keepIn K (.ref f_place_of) = true)
    (a_subsets_of : nsIn K mainGlobals "subsets_of" = some (some (.ref f_subsets_of)))
    (l_subsets_of : K.lookup f_subsets_of = some ⟨oc_subsets_of, od_subsets_of, .func (PySem.W.fnOf "subsets_of" "subsets_of" (defArgs s_subsets_of) (defBody s_subsets_of) (defScope s_subsets_of) .none kV_subsets_of dc_subsets_of pm_subsets_of an_subsets_of cd_subsets_of ct_subsets_of), sl_subsets_of⟩)
    (c_subsets_of : codeIn K cd_subsets_of "subsets_of" = true)
    (k_subsets_of : keepIn K (.ref f_subsets_of) = true)
    (a_all_requests : nsIn K mainGlobals "all_requests" = some (some (.ref f_all_requests)))
    (l_all_requests : K.lookup f_all_requests = some ⟨oc_all_requests, od_all_requests, .func (PySem.W.fnOf "all_requests" "all_requests" (defArgs s_all_requests) (defBody s_all_requests) (defScope s_all_requests) .none kV_all_requests dc_all_requests pm_all_requests an_all_requests cd_all_requests ct_all_requests), sl_all_requests⟩)
    (c_all_requests : codeIn K cd_all_requests "all_requests" = true)
    (k_all_requests : keepIn K (.ref f_all_requests) = true)
    (a_least_requests : nsIn K mainGlobals "least_requests" = some (some (.ref f_least_requests)))
    (l_least_requests : K.lookup f_least_requests = some ⟨oc_least_requests, od_least_requests, .func (PySem.W.fnOf "least_requests" "least_requests" (defArgs s_least_requests) (defBody s_least_requests) (defScope s_least_requests) .none kV_least_requests dc_least_requests pm_least_requests an_least_requests cd_least_requests ct_least_requests), sl_least_requests⟩)
    (c_least_requests : codeIn K cd_least_requests "least_requests" = true)
    (k_least_requests : keepIn K (.ref f_least_requests) = true)
    (a_L_hand : nsIn K mainGlobals "_law_hand" = some (some (.ref f_L_hand)))
    (l_L_hand : K.lookup f_L_hand = some ⟨oc_L_hand, od_L_hand, .func (PySem.W.fnOf "_law_hand" "_law_hand" (defArgs s_L_hand) (defBody s_L_hand) (defScope s_L_hand) .none kV_L_hand dc_L_hand pm_L_hand an_L_hand cd_L_hand ct_L_hand), sl_L_hand⟩)
    (c_L_hand : codeIn K cd_L_hand "_law_hand" = true)
    (k_L_hand : keepIn K (.ref f_L_hand) = true)
    (a_L_take : nsIn K mainGlobals "_law_take" = some (some (.ref f_L_take)))
    (l_L_take : K.lookup f_L_take = some ⟨oc_L_take, od_L_take, .func (PySem.W.fnOf "_law_take" "_law_take" (defArgs s_L_take) (defBody s_L_take) (defScope s_L_take) .none kV_L_take dc_L_take pm_L_take an_L_take cd_L_take ct_L_take), sl_L_take⟩)
    (c_L_take : codeIn K cd_L_take "_law_take" = true)
    (k_L_take : keepIn K (.ref f_L_take) = true)
    (a_L_of : nsIn K mainGlobals "_law_of" = some (some (.ref f_L_of)))
    (l_L_of : K.lookup f_L_of = some ⟨oc_L_of, od_L_of, .func (PySem.W.fnOf "_law_of" "_law_of" (defArgs s_L_of) (defBody s_L_of) (defScope s_L_of) .none kV_L_of dc_L_of pm_L_of an_L_of cd_L_of ct_L_of), sl_L_of⟩)
    (c_L_of : codeIn K cd_L_of "_law_of" = true)
    (k_L_of : keepIn K (.ref f_L_of) = true)
    (a_L_some : nsIn K mainGlobals "_law_some" = some (some (.ref f_L_some)))
    (l_L_some : K.lookup f_L_some = some ⟨oc_L_some, od_L_some, .func (PySem.W.fnOf "_law_some" "_law_some" (defArgs s_L_some) (defBody s_L_some) (defScope s_L_some) .none kV_L_some dc_L_some pm_L_some an_L_some cd_L_some ct_L_some), sl_L_some⟩)
    (c_L_some : codeIn K cd_L_some "_law_some" = true)
    (k_L_some : keepIn K (.ref f_L_some) = true)
    (a_L_names : nsIn K mainGlobals "_law_names" = some (some (.ref f_L_names)))
    (l_L_names : K.lookup f_L_names = some ⟨oc_L_names, od_L_names, .func (PySem.W.fnOf "_law_names" "_law_names" (defArgs s_L_names) (defBody s_L_names) (defScope s_L_names) .none kV_L_names dc_L_names pm_L_names an_L_names cd_L_names ct_L_names), sl_L_names⟩)
    (c_L_names : codeIn K cd_L_names "_law_names" = true)
    (k_L_names : keepIn K (.ref f_L_names) = true)
    (a_L_manifest : nsIn K mainGlobals "_law_manifest" = some (some (.ref f_L_manifest)))
    (l_L_manifest : K.lookup f_L_manifest = some ⟨oc_L_manifest, od_L_manifest, .func (PySem.W.fnOf "_law_manifest" "_law_manifest" (defArgs s_L_manifest) (defBody s_L_manifest) (defScope s_L_manifest) .none kV_L_manifest dc_L_manifest pm_L_manifest an_L_manifest cd_L_manifest ct_L_manifest), sl_L_manifest⟩)
    (c_L_manifest : codeIn K cd_L_manifest "_law_manifest" = true)
    (k_L_manifest : keepIn K (.ref f_L_manifest) = true)
    (a_L_odd : nsIn K mainGlobals "_law_odd" = some (some (.ref f_L_odd)))
    (l_L_odd : K.lookup f_L_odd = some ⟨oc_L_odd, od_L_odd, .func (PySem.W.fnOf "_law_odd" "_law_odd" (defArgs s_L_odd) (defBody s_L_odd) (defScope s_L_odd) .none kV_L_odd dc_L_odd pm_L_odd an_L_odd cd_L_odd ct_L_odd), sl_L_odd⟩)
    (c_L_odd : codeIn K cd_L_odd "_law_odd" = true)
    (k_L_odd : keepIn K (.ref f_L_odd) = true)
    (a_L_is_some_of : nsIn K mainGlobals "_law_is_some_of" = some (some (.ref f_L_is_some_of)))
    (l_L_is_some_of : K.lookup f_L_is_some_of = some ⟨oc_L_is_some_of, od_L_is_some_of, .func (PySem.W.fnOf "_law_is_some_of" "_law_is_some_of" (defArgs s_L_is_some_of) (defBody s_L_is_some_of) (defScope s_L_is_some_of) .none kV_L_is_some_of dc_L_is_some_of pm_L_is_some_of an_L_is_some_of cd_L_is_some_of ct_L_is_some_of), sl_L_is_some_of⟩)
    (c_L_is_some_of : codeIn K cd_L_is_some_of "_law_is_some_of" = true)
    (k_L_is_some_of : keepIn K (.ref f_L_is_some_of) = true)
    (a_L_closed : nsIn K mainGlobals "_law_closed" = some (some (.ref f_L_closed)))
    (l_L_closed : K.lookup f_L_closed = some ⟨oc_L_closed, od_L_closed, .func (PySem.W.fnOf "_law_closed" "_law_closed" (defArgs s_L_closed) (defBody s_L_closed) (defScope s_L_closed) .none kV_L_closed dc_L_closed pm_L_closed an_L_closed cd_L_closed ct_L_closed), sl_L_closed⟩)
    (c_L_closed : codeIn K cd_L_closed "_law_closed" = true)
    (k_L_closed : keepIn K (.ref f_L_closed) = true)
    (a_L_subsets : nsIn K mainGlobals "_law_subsets" = some (some (.ref f_L_subsets)))
    (l_L_subsets : K.lookup f_L_subsets = some ⟨oc_L_subsets, od_L_subsets, .func (PySem.W.fnOf "_law_subsets" "_law_subsets" (defArgs s_L_subsets) (defBody s_L_subsets) (defScope s_L_subsets) .none kV_L_subsets dc_L_subsets pm_L_subsets an_L_subsets cd_L_subsets ct_L_subsets), sl_L_subsets⟩)
    (c_L_subsets : codeIn K cd_L_subsets "_law_subsets" = true)
    (k_L_subsets : keepIn K (.ref f_L_subsets) = true)
    (a_L_raised : nsIn K mainGlobals "_law_raised" = some (some (.ref f_L_raised)))
    (l_L_raised : K.lookup f_L_raised = some ⟨oc_L_raised, od_L_raised, .func (PySem.W.fnOf "_law_raised" "_law_raised" (defArgs s_L_raised) (defBody s_L_raised) (defScope s_L_raised) .none kV_L_raised dc_L_raised pm_L_raised an_L_raised cd_L_raised ct_L_raised), sl_L_raised⟩)
    (c_L_raised : codeIn K cd_L_raised "_law_raised" = true)
    (k_L_raised : keepIn K (.ref f_L_raised) = true)
    (a_L_least : nsIn K mainGlobals "_law_least" = some (some (.ref f_L_least)))
    (l_L_least : K.lookup f_L_least = some ⟨oc_L_least, od_L_least, .func (PySem.W.fnOf "_law_least" "_law_least" (defArgs s_L_least) (defBody s_L_least) (defScope s_L_least) .none kV_L_least dc_L_least pm_L_least an_L_least cd_L_least ct_L_least), sl_L_least⟩)
    (c_L_least : codeIn K cd_L_least "_law_least" = true)
    (k_L_least : keepIn K (.ref f_L_least) = true)
    (a_law : nsIn K mainGlobals "law" = some (some (.ref f_law)))
    (l_law : K.lookup f_law = some ⟨oc_law, od_law, .func (PySem.W.fnOf "law" "law" (defArgs s_law) (defBody s_law) (defScope s_law) .none kV_law dc_law pm_law an_law (.ref cc_law) ct_law), sl_law⟩)
    (c_law : codeIn K (.ref cc_law) "law" = true)
    (k_law : keepIn K (.ref f_law) = true)
    (x_law : K.lookup cc_law = some ⟨ec_law, ed_law, .fields ev_law, es_law⟩)
    (y_law : ev_law[11]? = some (.ref pp_law))
    (h_law : PySem.W.codeHdIn K cc_law pp_law = true)
    (n_no_law : K.lookup pp_law = none)
    (yg_FeatureError : nsIn K mainGlobals "FeatureError" = some (some (.ref C_FeatureError)))
    (yg_BadUsers : nsIn K mainGlobals "BadUsers" = some (some (.ref C_BadUsers)))
    (yg_BadRequest : nsIn K mainGlobals "BadRequest" = some (some (.ref C_BadRequest)))
    (yf_BadRequest : Fu.fieldB K C_BadRequest = true)
    (yi_BadRequest : PySem.W.findIn K (.ref C_BadRequest) "__init__" = some (some (.ref fI_BadRequest)))
    (yt_BadRequest : PySem.W.typeIn K (.ref fI_BadRequest) = some (.type "function"))
    (yl_BadRequest : K.lookup fI_BadRequest = some ⟨ocI_BadRequest, odI_BadRequest, .func (PySem.W.fnOf "__init__" "BadRequest.__init__" (defArgs sI_BadRequest) (defBody sI_BadRequest) (defScope sI_BadRequest) .none kVI_BadRequest dcI_BadRequest pmI_BadRequest anI_BadRequest cdI_BadRequest ctI_BadRequest), slI_BadRequest⟩)
    (yc_BadRequest : codeIn K cdI_BadRequest "BadRequest.__init__" = true)
    (yk_BadRequest : keepIn K (.ref fI_BadRequest) = true)
    (yx0 : PySem.W.exmOne K (.ref C_BadRequest) (.ref C_FeatureError) = some true)
    (yx1 : PySem.W.kitOne K (.ref C_BadRequest) (.ref C_BadRequest) = some true)
    (yx2 : PySem.W.kitOne K (.ref C_BadRequest) (.type "ValueError") = some true)
    (yx3 : PySem.W.kitOne K (.ref C_BadRequest) (.ref C_BadUsers) = some false)
    (g_LETTERS : nsIn K mainGlobals "LETTERS" = some (some (.str "abcdefghijklmnopqrstuvwxyz" t_LETTERS)))
    (g_LONGEST_NAME : nsIn K mainGlobals "LONGEST_NAME" = some (some (.int 8 t_LONGEST_NAME)))
    (z_ValueError : nsIn K mainGlobals "ValueError" = some none)
    (z_abs : nsIn K mainGlobals "abs" = some none)
    (z_all : nsIn K mainGlobals "all" = some none)
    (z_dict : nsIn K mainGlobals "dict" = some none)
    (z_int : nsIn K mainGlobals "int" = some none)
    (z_isinstance : nsIn K mainGlobals "isinstance" = some none)
    (z_len : nsIn K mainGlobals "len" = some none)
    (z_list : nsIn K mainGlobals "list" = some none)
    (z_max : nsIn K mainGlobals "max" = some none)
    (z_min : nsIn K mainGlobals "min" = some none)
    (z_range : nsIn K mainGlobals "range" = some none)
    (z_repr : nsIn K mainGlobals "repr" = some none)
    (z_set : nsIn K mainGlobals "set" = some none)
    (z_sorted : nsIn K mainGlobals "sorted" = some none)
    (z_str : nsIn K mainGlobals "str" = some none)
    (z_tuple : nsIn K mainGlobals "tuple" = some none)
    (e_law : h.get? pp_law = some { cls := .none, data := .fields #[] }) :
    ∃ (fd : FuncData) (ts : List (Addr × Addr × Str)), (∀ t ∈ ts, h.get? t.2.1 = some { cls := .none, data := .fields #[] } ∧ K.lookup t.2.1 = none ∧ PySem.W.CodeHd h t.1 t.2.1) ∧
        (∀ (s : Shared) (u : Value), BindsTo s fd ⟨[u], []⟩ [("_law_script", u)]) ∧
        ∀ base : Heap, K.In base → base.Ns mainGlobals mg → SysB base → (∀ t ∈ ts, LamX.TabB base mg t.1 t.2.1) → Fu.FnG l.prog w K mg base CX0 8 fa fd ["_law_script"] (liftP ⟨l.prog, w, K, ts.map fun t => (t.2.1, t.2.2), base⟩ spLawP) := by
  have e := hfa.symm.trans (PySem.W.mg_of X G a_law)
  cases e
  have FI_BadRequest := fun_mk (st := sI_BadRequest) yl_BadRequest yc_BadRequest yk_BadRequest
  have bI_BadRequest := FI_BadRequest.binds (ps := ["self", "value"]) fun _ _ _ _ _ _ us hl => match us, hl with | [_, _], _ => rfl
  have xf_BadRequest : ExF K C_BadRequest := ⟨(Fu.anyB_ok (Fu.fieldB_any yf_BadRequest)).1, (Fu.anyB_ok (Fu.fieldB_any yf_BadRequest)).2.1, (Fu.fieldB_ok yf_BadRequest).1, (Fu.fieldB_ok yf_BadRequest).2⟩
  have F_is_name := fun_mk (st := s_is_name) l_is_name c_is_name k_is_name
  have b_is_name := F_is_name.binds (ps := p_is_name) fun _ _ _ _ _ _ us hl => match us, hl with | [_], _ => rfl
  have F_are_ascending_names := fun_mk (st := s_are_ascending_names) l_are_ascending_names c_are_ascending_names k_are_ascending_names
  have b_are_ascending_names := F_are_ascending_names.binds (ps := p_are_ascending_names) fun _ _ _ _ _ _ us hl => match us, hl with | [_], _ => rfl
  have F_features_in := fun_mk (st := s_features_in) l_features_in c_features_in k_features_in
  have b_features_in := F_features_in.binds (ps := p_features_in) fun _ _ _ _ _ _ us hl => match us, hl with | [_], _ => rfl
  have F_is_request := fun_mk (st := s_is_request) l_is_request c_is_request k_is_request
  have b_is_request := F_is_request.binds (ps := p_is_request) fun _ _ _ _ _ _ us hl => match us, hl with | [_, _], _ => rfl
  have F_closed_over := fun_mk (st := s_closed_over) l_closed_over c_closed_over k_closed_over
  have b_closed_over := F_closed_over.binds (ps := p_closed_over) fun _ _ _ _ _ _ us hl => match us, hl with | [_, _], _ => rfl
  have F_closure := fun_mk (st := s_closure) l_closure c_closure k_closure
  have b_closure := F_closure.binds (ps := p_closure) fun _ _ _ _ _ _ us hl => match us, hl with | [_, _], _ => rfl
  have F_place_of := fun_mk (st := s_place_of) l_place_of c_place_of k_place_of
  have b_place_of := F_place_of.binds (ps := p_place_of) fun _ _ _ _ _ _ us hl => match us, hl with | [_], _ => rfl
  have F_subsets_of := fun_mk (st := s_subsets_of) l_subsets_of c_subsets_of k_subsets_of
  have b_subsets_of := F_subsets_of.binds (ps := p_subsets_of) fun _ _ _ _ _ _ us hl => match us, hl with | [_], _ => rfl
  have F_all_requests := fun_mk (st := s_all_requests) l_all_requests c_all_requests k_all_requests
  have b_all_requests := F_all_requests.binds (ps := p_all_requests) fun _ _ _ _ _ _ us hl => match us, hl with | [_], _ => rfl
  have F_least_requests := fun_mk (st := s_least_requests) l_least_requests c_least_requests k_least_requests
  have b_least_requests := F_least_requests.binds (ps := p_least_requests) fun _ _ _ _ _ _ us hl => match us, hl with | [_, _], _ => rfl
  have F_L_hand := fun_mk (st := s_L_hand) l_L_hand c_L_hand k_L_hand
  have b_L_hand := F_L_hand.binds (ps := p_L_hand) fun _ _ _ _ _ _ us hl => match us, hl with | [_, _], _ => rfl
  have F_L_take := fun_mk (st := s_L_take) l_L_take c_L_take k_L_take
  have b_L_take := F_L_take.binds (ps := p_L_take) fun _ _ _ _ _ _ us hl => match us, hl with | [_, _], _ => rfl
  have F_L_of := fun_mk (st := s_L_of) l_L_of c_L_of k_L_of
  have b_L_of := F_L_of.binds (ps := p_L_of) fun _ _ _ _ _ _ us hl => match us, hl with | [_, _], _ => rfl
  have F_L_some := fun_mk (st := s_L_some) l_L_some c_L_some k_L_some
  have b_L_some := F_L_some.binds (ps := p_L_some) fun _ _ _ _ _ _ us hl => match us, hl with | [_, _, _], _ => rfl
  have F_L_names := fun_mk (st := s_L_names) l_L_names c_L_names k_L_names
  have b_L_names := F_L_names.binds (ps := p_L_names) fun _ _ _ _ _ _ us hl => match us, hl with | [_, _], _ => rfl
  have F_L_manifest := fun_mk (st := s_L_manifest) l_L_manifest c_L_manifest k_L_manifest
  have b_L_manifest := F_L_manifest.binds (ps := p_L_manifest) fun _ _ _ _ _ _ us hl => match us, hl with | [_, _], _ => rfl
  have F_L_odd := fun_mk (st := s_L_odd) l_L_odd c_L_odd k_L_odd
  have b_L_odd := F_L_odd.binds (ps := p_L_odd) fun _ _ _ _ _ _ us hl => match us, hl with | [_], _ => rfl
  have F_L_is_some_of := fun_mk (st := s_L_is_some_of) l_L_is_some_of c_L_is_some_of k_L_is_some_of
  have b_L_is_some_of := F_L_is_some_of.binds (ps := p_L_is_some_of) fun _ _ _ _ _ _ us hl => match us, hl with | [_, _], _ => rfl
  have F_L_closed := fun_mk (st := s_L_closed) l_L_closed c_L_closed k_L_closed
  have b_L_closed := F_L_closed.binds (ps := p_L_closed) fun _ _ _ _ _ _ us hl => match us, hl with | [_, _], _ => rfl
  have F_L_subsets := fun_mk (st := s_L_subsets) l_L_subsets c_L_subsets k_L_subsets
  have b_L_subsets := F_L_subsets.binds (ps := p_L_subsets) fun _ _ _ _ _ _ us hl => match us, hl with | [_], _ => rfl
  have F_L_raised := fun_mk (st := s_L_raised) l_L_raised c_L_raised k_L_raised
  have b_L_raised := F_L_raised.binds (ps := p_L_raised) fun _ _ _ _ _ _ us hl => match us, hl with | [_], _ => rfl
  have F_L_least := fun_mk (st := s_L_least) l_L_least c_L_least k_L_least
  have b_L_least := F_L_least.binds (ps := p_L_least) fun _ _ _ _ _ _ us hl => match us, hl with | [_, _, _], _ => rfl
  have F_law := fun_mk (st := s_law) l_law c_law k_law
  have b_law := F_law.binds (ps := p_law) fun _ _ _ _ _ _ us hl => match us, hl with | [_], _ => rfl
  refine ⟨PySem.W.fnOf "law" "law" (defArgs s_law) (defBody s_law) (defScope s_law) .none kV_law dc_law pm_law an_law (.ref cc_law) ct_law, [(cc_law, pp_law, ("law.<locals>.<lambda>" : Str))], ?_, fun s v => .of_eq rfl, fun base bK bG hsys hT => ?_⟩
  · exact (List.forall_mem_cons.mpr ⟨⟨e_law, n_no_law, PySem.W.codeHd_of_K X h_law⟩, (fun _ z => absurd z List.not_mem_nil)⟩)
  show Fu.FnG l.prog w K mg base CX0 8 fa _ p_law (liftP ⟨l.prog, w, K, [(pp_law, ("law.<locals>.<lambda>" : Str))], base⟩ spLawP)
  generalize hτ : ([(pp_law, ("law.<locals>.<lambda>" : Str))] : Tb) = τ
  have xg_FeatureError := PySem.W.mg_of X G yg_FeatureError
  have xg_BadUsers := PySem.W.mg_of X G yg_BadUsers
  have xg_BadRequest := PySem.W.mg_of X G yg_BadRequest
  have xi_BadRequest : ExI l.prog w K mg base "BadRequest" C_BadRequest := ⟨xf_BadRequest, xg_BadRequest, fI_BadRequest, _, yi_BadRequest, yt_BadRequest, Fu.ok_init FI_BadRequest scI_BadRequest (Fu.fieldB_ok yf_BadRequest).1 (Fu.fieldB_ok yf_BadRequest).2 rfl rfl, bI_BadRequest⟩
  have L_law : LamFn τ K mg base fa "law.<locals>.<lambda>" := by
    subst hτ
    refine ⟨cc_law, pp_law, fun cdv code => (code _ _ _ _ _ _ _ _ _ _ _ _ _ _ _ l_law).symm, hT _ (List.mem_cons_self), List.mem_cons_self, ?_⟩
    intro p hp hpp
    simp only [List.mem_cons, List.not_mem_nil, or_false] at hp
    rcases hp with rfl
    rfl
  have G_L_hand : PFnH l.prog w K mg base 1 "_law_hand" p_L_hand := ⟨f_L_hand, _, Fu.FnG.of (okn_hand F_L_hand (PySem.W.mg_none_of X G z_len) (PySem.W.mg_none_of X G z_abs) (PySem.W.mg_none_of X G z_int)), PySem.W.mg_of X G a_L_hand, k_L_hand, b_L_hand⟩
  have G_L_take : PFn τ l.prog w K mg base 1 "_law_take" p_L_take spTake := pfn_take (Fu.FnG.of (okn_take F_L_take)) (PySem.W.mg_of X G a_L_take) k_L_take b_L_take
  have KD_place_of : KeyDef K mg "place_of" := ⟨f_place_of, _, s_place_of, "request", _, _, _, _, _, _, _, F_place_of, PySem.W.mg_of X G a_place_of, ⟨rfl, rfl, rfl, by decide +kernel, by decide +kernel, rfl, rfl⟩, rfl, b_place_of, by decide⟩
  have G_features_in := pf_features_in (P := l.prog) (w := w) (base := base) (τ := τ) F_features_in (PySem.W.mg_of X G a_features_in) k_features_in b_features_in (PySem.W.mg_none_of X G z_tuple) 
  have G_closed_over := pf_closed_over (P := l.prog) (w := w) (base := base) (τ := τ) F_closed_over (PySem.W.mg_of X G a_closed_over) k_closed_over b_closed_over (PySem.W.mg_none_of X G z_dict) (PySem.W.mg_none_of X G z_list) (PySem.W.mg_none_of X G z_set) (PySem.W.mg_none_of X G z_sorted) (PySem.W.mg_none_of X G z_tuple) 
  have G_subsets_of := pf_subsets_of (P := l.prog) (w := w) (base := base) (τ := τ) F_subsets_of (PySem.W.mg_of X G a_subsets_of) k_subsets_of b_subsets_of (PySem.W.mg_none_of X G z_len) (PySem.W.mg_none_of X G z_sorted) KD_place_of
  have G_all_requests := pf_all_requests (P := l.prog) (w := w) (base := base) (τ := τ) F_all_requests (PySem.W.mg_of X G a_all_requests) k_all_requests b_all_requests G_features_in G_subsets_of
  have G_is_name := pf_is_name (P := l.prog) (w := w) (base := base) (τ := τ) F_is_name (PySem.W.mg_of X G a_is_name) k_is_name b_is_name (PySem.W.mg_none_of X G z_all) (PySem.W.mg_none_of X G z_isinstance) (PySem.W.mg_none_of X G z_len) (PySem.W.mg_none_of X G z_str) (PySem.W.mg_of X G g_LETTERS) (PySem.W.mg_of X G g_LONGEST_NAME) 
  have G_are_ascending_names := pf_are_ascending_names (P := l.prog) (w := w) (base := base) (τ := τ) F_are_ascending_names (PySem.W.mg_of X G a_are_ascending_names) k_are_ascending_names b_are_ascending_names (PySem.W.mg_none_of X G z_all) (PySem.W.mg_none_of X G z_isinstance) (PySem.W.mg_none_of X G z_len) (PySem.W.mg_none_of X G z_range) (PySem.W.mg_none_of X G z_tuple) G_is_name
  have G_is_request := pf_is_request (P := l.prog) (w := w) (base := base) (τ := τ) F_is_request (PySem.W.mg_of X G a_is_request) k_is_request b_is_request (PySem.W.mg_none_of X G z_all) G_features_in G_are_ascending_names
  have G_closure := pf_closure (P := l.prog) (w := w) (base := base) (τ := τ) F_closure (PySem.W.mg_of X G a_closure) k_closure b_closure G_is_request G_closed_over
  have G_least_requests := pf_least_requests (P := l.prog) (w := w) (base := base) (τ := τ) F_least_requests (PySem.W.mg_of X G a_least_requests) k_least_requests b_least_requests (PySem.W.mg_none_of X G z_len) (PySem.W.mg_none_of X G z_tuple) G_closure G_all_requests G_closed_over
  have G_L_of := pf_L_of (P := l.prog) (w := w) (base := base) (τ := τ) F_L_of (PySem.W.mg_of X G a_L_of) k_L_of b_L_of (PySem.W.mg_none_of X G z_len) G_L_take
  have G_L_some := pf_L_some (P := l.prog) (w := w) (base := base) (τ := τ) F_L_some (PySem.W.mg_of X G a_L_some) k_L_some b_L_some (PySem.W.mg_none_of X G z_tuple) G_L_take
  have G_L_names := pf_L_names (P := l.prog) (w := w) (base := base) (τ := τ) F_L_names (PySem.W.mg_of X G a_L_names) k_L_names b_L_names (PySem.W.mg_none_of X G z_len) G_L_take
  have G_L_manifest := pf_L_manifest (P := l.prog) (w := w) (base := base) (τ := τ) F_L_manifest (PySem.W.mg_of X G a_L_manifest) k_L_manifest b_L_manifest (PySem.W.mg_none_of X G z_tuple) G_L_names G_L_of G_L_some
  have G_L_closed := pf_L_closed (P := l.prog) (w := w) (base := base) (τ := τ) F_L_closed (PySem.W.mg_of X G a_L_closed) k_L_closed b_L_closed (PySem.W.mg_none_of X G z_dict) (PySem.W.mg_none_of X G z_list) (PySem.W.mg_none_of X G z_sorted) (PySem.W.mg_none_of X G z_tuple) 
  have G_closureX := pf_closureX (P := l.prog) (w := w) (base := base) (τ := τ) F_closure (PySem.W.mg_of X G a_closure) k_closure b_closure xi_BadRequest G_is_request
  have G_least_requestsX := pf_least_requestsX (P := l.prog) (w := w) (base := base) (τ := τ) F_least_requests (PySem.W.mg_of X G a_least_requests) k_least_requests b_least_requests G_closureX
  have G_L_raised := pf_L_raised (P := l.prog) (w := w) (base := base) (τ := τ) F_L_raised (PySem.W.mg_of X G a_L_raised) k_L_raised b_L_raised (PySem.W.mg_none_of X G z_ValueError) (PySem.W.mg_none_of X G z_isinstance) xf_BadRequest xg_BadRequest xg_FeatureError xg_BadUsers yx0 yx1 yx2 yx3
  have G_L_subsets2 := pf_L_subsets2 (P := l.prog) (w := w) (base := base) (τ := τ) F_L_subsets (PySem.W.mg_of X G a_L_subsets) k_L_subsets b_L_subsets 
  have G_L_odd := pf_L_odd (P := l.prog) (w := w) (base := base) (τ := τ) F_L_odd (PySem.W.mg_of X G a_L_odd) k_L_odd b_L_odd (PySem.W.mg_none_of X G z_range) G_L_of
  have G_L_is_some_of := pf_L_is_some_of (P := l.prog) (w := w) (base := base) (τ := τ) F_L_is_some_of (PySem.W.mg_of X G a_L_is_some_of) k_L_is_some_of b_L_is_some_of (PySem.W.mg_none_of X G z_all) (PySem.W.mg_none_of X G z_isinstance) (PySem.W.mg_none_of X G z_list) (PySem.W.mg_none_of X G z_set) (PySem.W.mg_none_of X G z_sorted) (PySem.W.mg_none_of X G z_str) (PySem.W.mg_none_of X G z_tuple) 
  have G_L_least := pf_L_least (P := l.prog) (w := w) (base := base) (τ := τ) F_L_least (PySem.W.mg_of X G a_L_least) k_L_least b_L_least (PySem.W.mg_none_of X G z_len) (PySem.W.mg_none_of X G z_min) (PySem.W.mg_none_of X G z_sorted) (PySem.W.mg_none_of X G z_tuple) 
  exact pf_law (P := l.prog) (w := w) (base := base) (τ := τ) F_law (PySem.W.mg_of X G a_law) k_law b_law (PySem.W.mg_none_of X G z_dict) (PySem.W.mg_none_of X G z_len) (PySem.W.mg_none_of X G z_list) (PySem.W.mg_none_of X G z_max) (PySem.W.mg_none_of X G z_min) (PySem.W.mg_none_of X G z_range) (PySem.W.mg_none_of X G z_repr) (PySem.W.mg_none_of X G z_tuple) hsys L_law G_L_hand G_L_take G_L_some G_L_odd G_L_manifest G_L_raised G_L_subsets2 G_L_is_some_of G_L_closed G_L_least G_least_requests G_least_requestsX
end L2.Pu
open PySem PySem.W PyProof.Rows in
set_option maxRecDepth 100000 in
set_option maxHeartbeats 0 in
theorem PySem.Challenge.cw_featureunion_k08_least_requests_holds : PySem.Challenge.rw_featureunion_k08_least_requests.Holds := by
  w_on; o_law; k_head; (case hw => w_witness2)
  k_fill
  refine L2.Pu.endTS (l := PySem.Challenge.rw_featureunion_k08_least_requests) (n := 63) (k := 8) (x := "_law_script") (sp := L2.Pu.spLawP) rfl (by decide) rfl ⟨rfl, by decide, by decide⟩ (by decide +kernel) (fun w h Y => PySem.W.km_in_of Y) ?F (fun ns hl κ k => ⟨ns, rfl, hl, k⟩)
  case F =>
    intro w mg fa h Y KX G hmg
    refine' L2.Pu.all_mk KX G hmg ?a_is_name ?l_is_name ?c_is_name ?k_is_name ?a_are_ascending_names ?l_are_ascending_names ?c_are_ascending_names ?k_are_ascending_names ?a_features_in ?l_features_in ?c_features_in ?k_features_in ?a_is_request ?l_is_request ?c_is_request ?k_is_request ?a_closed_over ?l_closed_over ?c_closed_over ?k_closed_over ?a_closure ?l_closure ?c_closure ?k_closure ?a_place_of ?l_place_of ?c_place_of ?k_place_of ?a_subsets_of ?l_subsets_of ?c_subsets_of ?k_subsets_of ?a_all_requests ?l_all_requests ?c_all_requests ?k_all_requests ?a_least_requests ?l_least_requests ?c_least_requests ?k_least_requests ?a_L_hand ?l_L_hand ?c_L_hand ?k_L_hand ?a_L_take ?l_L_take ?c_L_take ?k_L_take ?a_L_of ?l_L_of ?c_L_of ?k_L_of ?a_L_some ?l_L_some ?c_L_some ?k_L_some ?a_L_names ?l_L_names ?c_L_names ?k_L_names ?a_L_manifest ?l_L_manifest ?c_L_manifest ?k_L_manifest ?a_L_odd ?l_L_odd ?c_L_odd ?k_L_odd ?a_L_is_some_of ?l_L_is_some_of ?c_L_is_some_of ?k_L_is_some_of ?a_L_closed ?l_L_closed ?c_L_closed ?k_L_closed ?a_L_subsets ?l_L_subsets ?c_L_subsets ?k_L_subsets ?a_L_raised ?l_L_raised ?c_L_raised ?k_L_raised ?a_L_least ?l_L_least ?c_L_least ?k_L_least ?a_law ?l_law ?c_law ?k_law ?x_law ?y_law ?h_law ?n_no_law ?yg_FeatureError ?yg_BadUsers ?yg_BadRequest ?yf_BadRequest ?yi_BadRequest ?yt_BadRequest ?yl_BadRequest ?yc_BadRequest ?yk_BadRequest ?yx0 ?yx1 ?yx2 ?yx3 ?g_LETTERS ?g_LONGEST_NAME ?z_ValueError ?z_abs ?z_all ?z_dict ?z_int ?z_isinstance ?z_len ?z_list ?z_max ?z_min ?z_range ?z_repr ?z_set ?z_sorted ?z_str ?z_tuple ?e_law
    (case a_is_name => k_is)
    (case l_is_name => k_is)
    (case c_is_name => k_is)
    (case k_is_name => k_is)
    (case a_are_ascending_names => k_is)
    (case l_are_ascending_names => k_is)
    (case c_are_ascending_names => k_is)
    (case k_are_ascending_names => k_is)
    (case a_features_in => k_is)
    (case l_features_in => k_is)
    (case c_features_in => k_is)
    (case k_features_in => k_is)
    (case a_is_request => k_is)
    (case l_is_request => k_is)
    (case c_is_request => k_is)
    (case k_is_request => k_is)
    (case a_closed_over => k_is)
    (case l_closed_over => k_is)
    (case c_closed_over => k_is)
    (case k_closed_over => k_is)
    (case a_closure => k_is)
    (case l_closure => k_is)
    (case c_closure => k_is)
    (case k_closure => k_is)
    (case a_place_of => k_is)
    (case l_place_of => k_is)
    (case c_place_of => k_is)
    (case k_place_of => k_is)
    (case a_subsets_of => k_is)
    (case l_subsets_of => k_is)
    (case c_subsets_of => k_is)
    (case k_subsets_of => k_is)
    (case a_all_requests => k_is)
    (case l_all_requests => k_is)
    (case c_all_requests => k_is)
    (case k_all_requests => k_is)
    (case a_least_requests => k_is)
    (case l_least_requests => k_is)
    (case c_least_requests => k_is)
    (case k_least_requests => k_is)
    (case a_L_hand => k_is)
    (case l_L_hand => k_is)
    (case c_L_hand => k_is)
    (case k_L_hand => k_is)
    (case a_L_take => k_is)
    (case l_L_take => k_is)
    (case c_L_take => k_is)
    (case k_L_take => k_is)
    (case a_L_of => k_is)
    (case l_L_of => k_is)
    (case c_L_of => k_is)
    (case k_L_of => k_is)
    (case a_L_some => k_is)
    (case l_L_some => k_is)
    (case c_L_some => k_is)
    (case k_L_some => k_is)
    (case a_L_names => k_is)
    (case l_L_names => k_is)
    (case c_L_names => k_is)
    (case k_L_names => k_is)
    (case a_L_manifest => k_is)
    (case l_L_manifest => k_is)
    (case c_L_manifest => k_is)
    (case k_L_manifest => k_is)
    (case a_L_odd => k_is)
    (case l_L_odd => k_is)
    (case c_L_odd => k_is)
    (case k_L_odd => k_is)
    (case a_L_is_some_of => k_is)
    (case l_L_is_some_of => k_is)
    (case c_L_is_some_of => k_is)
    (case k_L_is_some_of => k_is)
    (case a_L_closed => k_is)
    (case l_L_closed => k_is)
    (case c_L_closed => k_is)
    (case k_L_closed => k_is)
    (case a_L_subsets => k_is)
    (case l_L_subsets => k_is)
    (case c_L_subsets => k_is)
    (case k_L_subsets => k_is)
    (case a_L_raised => k_is)
    (case l_L_raised => k_is)
    (case c_L_raised => k_is)
    (case k_L_raised => k_is)
    (case a_L_least => k_is)
    (case l_L_least => k_is)
    (case c_L_least => k_is)
    (case k_L_least => k_is)
    (case a_law => k_is)
    (case l_law => k_is)
    (case c_law => k_is)
    (case k_law => k_is)
    (case x_law => k_is)
    (case y_law => rfl)
    (case h_law => kernel_rfl)
    (case n_no_law => kernel_rfl)
    (case yg_FeatureError => k_is)
    (case yg_BadUsers => k_is)
    (case yg_BadRequest => k_is)
    (case yf_BadRequest => kernel_rfl)
    (case yi_BadRequest => k_is)
    (case yt_BadRequest => k_is)
    (case yl_BadRequest => k_is)
    (case yc_BadRequest => k_is)
    (case yk_BadRequest => k_is)
    (case yx0 => kernel_rfl)
    (case yx1 => kernel_rfl)
    (case yx2 => kernel_rfl)
    (case yx3 => kernel_rfl)
    (case g_LETTERS => k_is)
    (case g_LONGEST_NAME => k_is)
    (case z_ValueError => k_is)
    (case z_abs => k_is)
    (case z_all => k_is)
    (case z_dict => k_is)
    (case z_int => k_is)
    (case z_isinstance => k_is)
    (case z_len => k_is)
    (case z_list => k_is)
    (case z_max => k_is)
    (case z_min => k_is)
    (case z_range => k_is)
    (case z_repr => k_is)
    (case z_set => k_is)
    (case z_sorted => k_is)
    (case z_str => k_is)
    (case z_tuple => k_is)
    (case e_law => exact PySem.W.km_tabs_of Y _ (by decide))
