import PyProof.Rows.All
import Wide.All
import OpenK.AllK
import Wide.FinOn
import PyProof.ReprRoads
import KE.KExcIs
import HandS.ForMost
import HandS.Exc
import HandS.ExcOwn
import HandS.ExcInit
import HandS.ExcValue
import HandS.Wide
import HandS.ExcIs
import HandS.ExcField
import HandS.IsInst
import HandS.More
import HandS.SetTxt0
import HandS.SetKeys
import HandS.SetBool
import PyProof.Rows.SetFrom
import HandS.TupAny
import PySem.Challenge.RW_featureunion_k03_whole_formulas_at_all_s
set_option Elab.async false
set_option linter.all false
set_option maxRecDepth 100000
set_option maxHeartbeats 4000000
/-! ## Calls where no repr is under way -/
namespace L2.Fu
open PySem PySem.Spec PyProof.Rows

/-- what a def promises to callers around whom no repr runs -/
structure FnG (P : Program) (w : World) (K : PySem.W.Frag) (mg : Str → Option Value) (base : Heap) (CX : CXT) (k : Nat) (f : Addr) (fd : FuncData) (ps : List Str) (sp : Sp) : Prop where
  len : ∀ vs H Q E, sp vs H Q E → vs.length = ps.length
  go : ∀ (A : Around) (outer : List Env) (s : Shared) (H : Hp) (args : Args) (us : List Value) (vs : List V) (Q : VK) (E : XK), A.guards = some [] → Room k A → Env0 P w K mg base A outer s H →
    BindsTo s fd args (ps.zip us) → Vals vs us → sp vs H Q E → codeAny (model P w) A (.call (.ref f) args) (CR CX outer P w H s Q E) s

section
variable {P : Program} {w : World} {K : PySem.W.Frag} {mg : Str → Option Value} {base : Heap}
theorem FnG.of {CX : CXT} {k : Nat} {f : Addr} {fd : FuncData} {ps : List Str} {sp : Sp} (F : FnOk P w K mg base CX k f fd ps sp) : FnG P w K mg base CX k f fd ps sp :=
  ⟨F.len, fun A outer s H args us vs Q E _ hr e b v h => F.run A outer s H args us vs Q E hr e b v h⟩

/-- a def of the text by its body, guards told -/
theorem Fun.okG {x qual : Str} {st : Stmt} {f : Addr} {fd : FuncData} {N ps : List Str} {k : Nat} {sp : Sp} (F : Fun K x qual st f fd) (S : FnScope N ps (defScope st)) (len : ∀ vs H Q E, sp vs H Q E → vs.length = ps.length)
    (body : ∀ (cdv : Value) (A : Around) (outer : List Env) (s : Shared) (H : Hp) (vs : List V) (Q : VK) (E : XK), (A.deeper (envOfC qual (defScope st) s.heap.objs.size f cdv)).guards = some [] →
      Room k (A.deeper (envOfC qual (defScope st) s.heap.objs.size f cdv)) → sp vs H Q E →
      ∃ t, PSs (cxOf CX0 P w K mg base N qual (defScope st) f cdv A outer s H E).nox (defBody st) t ∧ t { nx := fun _ H' => Q .non H', rt := Q } (start N vs) H) : FnG P w K mg base CX0 (k + 1) f fd ps sp := by
  obtain ⟨oc, od, kV, doc, pm, an, cdv, ct, osl, rfl, lk, hcd⟩ := F.ex
  refine ⟨len, fun A outer s H args us vs Q E gd hr e0 hb r hsp => ?_⟩
  have inK : K.In s.heap := e0.mod.kin.keeps fun b o e => (e0.bs b o e).1
  have par : ∀ y ∈ ps.zip us, (defScope st).names.lookup y.1 = some .local ∨ ((defScope st).names.lookup y.1 = some .cell ∧ ((cellsFrom (s.heap.objs.size + 1) (defScope st).names []).lookup y.1).isSome = true) := by
    rintro ⟨n, v⟩ hy
    rcases S.par n (List.of_mem_zip hy).1 with q | q
    · exact .inl q
    · exact .inr ⟨q, PySem.W.cellsFrom_some _ _ _ (.inl q)⟩
  refine codeAny_call_function hr.depth (inK _ _ lk) rfl S.co S.gen rfl (PySem.W.codeRec_of inK hcd) (hb _ _ _ _ ?_)
  refine wpAny_newFunctionEnv_cells S.kind par fun env he s1 x => ?_
  subst he
  refine ⟨(e0.mod.nolimit.keeps fun b o e => (e0.bs b o e).1).keeps x.toInCall.keep, codeAny_func ?_⟩
  obtain ⟨t, ht, hq⟩ := body cdv A outer s H vs Q E gd (hr.deeper _) hsp
  have I0 := inv_start (CX := CX0) (E := E) S hr.hd e0 (len _ _ _ _ hsp) r x
  refine wpAny_mono (ht.nox.run [] s1 (start N vs) H _ I0 hq) (fun fl s' hs => ?_) fun e s' hs => hs
  cases fl with
  | ret u =>
    obtain ⟨v, σ', H', J, rv, q⟩ := hs
    exact ⟨v, H', J.os, J.bare, J.base, J.hok, rv, q⟩
  | next =>
    obtain ⟨σ', H', J, q⟩ := hs
    exact ⟨V.non, H', J.os, J.bare, J.base, J.hok, rfl, q⟩
  | brk => exact hs.elim fun _ z => z.elim fun _ z => z.2.elim
  | cont => exact hs.elim fun _ z => z.elim fun _ z => z.2.elim
end

section
variable {X : Cx} {CX : CXT} {k : Nat} {f : Addr} {fd : FuncData} {ps : List Str} {sp : Sp} {dvs : List V} {ds : List Value} {E : XK} {x : Str} {p pos : Pos} {e : Expr} {es : List Expr} {t : TA}
/-- f(e, ..) where no repr is under way -/
theorem pe_callG (F : FnG X.prog X.w X.K X.mg X.base CX k f fd ps sp) (gd : X.A.guards = some []) (hr : Room k X.A) (hg : Gl X x) (hm : X.mg x = some (.ref f)) (hk : PySem.W.keepIn X.K (.ref f) = true) (hb : Binds X.K fd ps ds) (hd : Vals dvs ds) (hx : Passes CX X E)
    (ha : PA X (e :: es) t) (hdb : (x == ("__debug__" : Str)) = false := by decide) (he : starEach (e :: es) X.env = (false, eval e X.env) :: starEach es X.env := by rfl) (hpl : (backTo pos (starEach es X.env)).any (·.1) = false := by rfl) :
    PE X (.Call (.Name x p) (e :: es) [] pos) (tCall sp dvs E t) := by
  refine ⟨fun pins s σ H Q I h => wpAny_Call_Name_kw (ld_glob I hg hm ?_ hdb)⟩
  refine PySem.W.callWith_K (h₀ := X.base) I.ok.mod.kin hk (thn (ha.run pos pins s σ H _ I h) fun us s1 hh => ?_) he hpl
  obtain ⟨vs, H1, J, r, q⟩ := hh
  refine ⟨J.kIn, ?_⟩
  have rr : Vals (vs ++ dvs) (us ++ ds) := r.append hd
  have ll : (us ++ ds).length = ps.length := rr.length.symm.trans (F.len _ _ _ _ q)
  refine wpAny_call (codeAny_mono (F.go X.A X.stack s1 H1 ⟨us, []⟩ (us ++ ds) (vs ++ dvs) Q E gd hr J.env0 (hb s1 us J.kIn ll) rr q) fun res s2 hq => ?_)
  match res, hq with
  | .error er, hq => exact hx pins σ H1 s1 er s2 J hq
  | .ok (.ret u), hq => exact J.after hq
  | .ok .next, hq => exact hq.elim
  | .ok .brk, hq => exact hq.elim
  | .ok .cont, hq => exact hq.elim
end
end L2.Fu
/-! ## The end of a law over such a def -/
namespace L2.Fu
open PySem PySem.Spec PyProof.Rows

/-- the law's call from a heap in which the script alone is tracked, if it is -/
theorem lawG_at {P : Program} {w : World} {K : PySem.W.Frag} {mg mb : Str → Option Value} {k : Nat} {fa a : Addr} {fd : FuncData} {x : Str} {sp : Sp} {s1 : Shared} {vs : List Value} {H : Hp}
    (KX : K.In s1.heap) (nsG : s1.heap.Ns mainGlobals mg) (nsB : s1.heap.Ns builtinsNs mb) (isB : ∀ x : Str, x ≠ "__name__" → mb x = bootBuiltins x) (lim : s1.heap.NoLimit) (gens : s1.gens = #[])
    (sc : s1.heap.get? a = some { cls := .type "list", data := .seq vs.toArray }) (hr : Room k callerA)
    (F : ∀ base : Heap, K.In base → base.Ns mainGlobals mg → FnG P w K mg base CX0 k fa fd [x] sp) (hbind : ∀ (s : Shared) (u : Value), BindsTo s fd ⟨[u], []⟩ [(x, u)])
    (only : Only H) (hok : HOk P w H s1.heap) (at_a : ∀ b, H b ≠ none → b = a) (offK : H a ≠ none → K.lookup a = none) (hsp : sp [.ref a] H (fun v _ => v = .bl true) fun _ _ _ => False) :
    codeAny (model P w) callerA (.call (.ref fa) ⟨[.ref a], []⟩) (fun r s' => r = .ok (.ret (.bool true)) ∧ OldK s1.heap s'.heap ∧ s'.os = s1.os ∧ AllBare s'.gens) s1 := by
  -- a dict of the heap is not the script
  have plainD : ∀ (b : Addr) (o : Obj) (es : Array DictEntry) (ep : Nat), s1.heap.get? b = some o → o.data = .dict es ep → H b = none := by
    intro b o es ep e d
    cases q : H b with
    | none => rfl
    | some u =>
      obtain rfl : b = a := at_a b (by rw [q]; exact Option.some_ne_none u)
      rw [sc] at e
      cases e
      cases (show Data.seq vs.toArray _ = Data.dict es ep from d)
  have nsHid : ∀ (b : Addr) (m : Str → Option Value), s1.heap.Ns b m → (hidT s1.heap H).Ns b m := by
    rintro b m ⟨o, es, ep, e, d, r⟩
    exact ⟨o, es, ep, hidT_get e (plainD b o es ep e d), d, r⟩
  have inHid : K.In (hidT s1.heap H) := by
    intro b o e
    refine hidT_get (KX b o e) ?_
    cases q : H b with
    | none => rfl
    | some u =>
      have nn : H b ≠ none := by rw [q]; exact Option.some_ne_none u
      obtain rfl : b = a := at_a b nn
      rw [offK nn] at e
      cases e
  obtain ⟨mc, c1, c2⟩ := lim
  have modH : Mod K mg (hidT s1.heap H) := ⟨inHid, nsHid _ _ nsG, ⟨mb, nsHid _ _ nsB, isB⟩, ⟨mc, nsHid _ _ c1, c2⟩⟩
  have e0 : Env0 P w K mg (hidT s1.heap H) callerA [] s1 H :=
    { frames := rfl, mod := modH, bs := fun b o e => of_hidT e, bsz := Nat.le_of_eq (hidT_size _ _), funs := trivial, frf := (fun b z => nomatch z), hok := hok, bare := .of_eq gens }
  refine codeAny_mono ((F _ inHid (nsHid _ _ nsG)).go callerA [] s1 H ⟨[.ref a], []⟩ [.ref a] [.ref a] _ _ rfl hr e0 (hbind s1 (.ref a)) (.cons rfl .nil) hsp) fun r s' h => ?_
  match r, h with
  | .error e, h => exact h.elim
  | .ok .next, h => exact h.elim
  | .ok .brk, h => exact h.elim
  | .ok .cont, h => exact h.elim
  | .ok (.ret u), h =>
    obtain ⟨v, H', os, bare, un, hok', r', q⟩ := h
    obtain rfl : v = V.bl true := q
    obtain rfl : u = Value.bool true := r'
    refine ⟨rfl, OldK.of_keep fun b o e => ?_, os, bare⟩
    rcases only b with z | ⟨ob, xs, z⟩
    · exact un.keep b o e z (fun t => nomatch t) fun t => nomatch t
    · have old := (hok b _ z).1
      rw [e] at old
      cases old
      exact (hok' b _ (un.frzs b o _ z)).1

theorem endG {l : PySem.W.OpenLaw} {n k : Nat} {q : Program} {loose : List Str} {XP : (Str → Option Value) → Heap → Prop} {YP : World → Heap → Prop} {d : DefRec} {K : Params → PySem.W.Frag} {sp : PySem.W.Frag → Sp} {x : Str}
    (hn : l.most = some n) (hn2 : n ≤ sizeLine) (hdf : d.params.defaults = []) (hr : Room k callerA)
    (hY : ∀ (w : World) (h : Heap), YP w h → (K w.params).In h)
    (F : ∀ (w : World) (mg : Str → Option Value) (fa : Addr) (h : Heap), (K w.params).In h → h.Ns mainGlobals mg → mg d.name = some (.ref fa) →
      ∃ fd : FuncData, (∀ (s : Shared) (u : Value), BindsTo s fd ⟨[u], []⟩ [(x, u)]) ∧
        ∀ base : Heap, (K w.params).In base → base.Ns mainGlobals mg → FnG l.prog w (K w.params) mg base CX0 k fa fd [x] (sp (K w.params)))
    (hsp : ∀ (K : PySem.W.Frag) (H : Hp) (a : Addr) (ns : List Int), ns.length ≤ n → Only H → SqL K H a (ns.map V.int) → sp K [.ref a] H (fun v _ => v = .bl true) fun _ _ _ => False) :
    PySem.W.WalkO q loose XP YP l.row.toRowW d [] (fun f vs => PySem.call f vs) := by
  refine Att.attach_call hn hdf fun w s0 s1 mg mb fa o pm cd doc a vs ns G Y ho hd hcd hmg hobj hints hlen hg => ?_
  have KX := hY w _ Y
  obtain ⟨fd, hb, hF⟩ := F w mg fa _ KX G.T.g hmg
  have rv := vals_ints hints
  have sz : ns.length ≤ sizeLine := Nat.le_trans hlen hn2
  have lawAt := fun H a1 a2 a3 a4 a5 => lawG_at (H := H) KX G.T.g G.T.b G.T.builtins G.T.nolimit hg hobj hr hF hb a1 a2 a3 a4 a5
  cases hk : (K w.params).lookup a with
  | some ob =>
    have e := KX a ob hk
    rw [hobj] at e
    cases e
    have hS : SqL (K w.params) (fun _ => none) a (ns.map V.int) := .inr ⟨_, vs.toArray, _, hk, rfl, rfl, rfl, by rw [List.size_toArray, hints.length]; exact sz, by simpa using rv⟩
    exact lawAt (fun _ => none) (fun _ => .inl rfl) (fun b u z => nomatch z) (fun b z => absurd rfl z) (fun z => absurd rfl z) (hsp _ _ a ns hlen (fun _ => .inl rfl) hS)
  | none =>
    have fz : ObjOk l.prog w (upd (fun _ => none) a (.frz { cls := .type "list", data := .seq vs.toArray } (.lst (ns.map V.int)))) s1.heap a (.frz { cls := .type "list", data := .seq vs.toArray } (.lst (ns.map V.int))) :=
      ⟨hobj, by rw [List.length_map]; exact sz, vs, _, rv, hobj⟩
    have only : Only (upd (fun _ => none) a (.frz { cls := .type "list", data := .seq vs.toArray } (.lst (ns.map V.int)))) := fun b => by
      by_cases hb : b = a
      · exact .inr ⟨_, _, by rw [hb]; exact upd_same⟩
      · exact .inl (upd_ne hb)
    refine lawAt _ only (fun b u z => ?_) (fun b z => ?_) (fun _ => hk) (hsp _ _ a ns hlen only (.inl (.inr ⟨_, upd_same⟩)))
    · by_cases hb : b = a
      · subst hb
        rw [upd_same] at z
        cases z
        exact fz
      · rw [upd_ne hb] at z
        cases z
    · by_cases hb : b = a
      · exact hb
      · exact absurd (upd_ne hb) z
end L2.Fu
/-! ## Data, and how it is shown -/
namespace L2.Fu
open PySem PySem.Spec PyProof.Rows

def keyD : Key → PyData
  | .inl i => .int i
  | .inr x => .str x
mutual
/-- v is read as d in the abstract heap H; every list, tuple and dict of it is tracked -/
inductive Da (H : Hp) : V → PyData → Prop
  | non : Da H .non .none
  | bl (b : Bool) : Da H (.bl b) (.bool b)
  | int (i : Int) : Da H (.int i) (.int i)
  | str (x : Str) : Da H (.str x) (.str x)
  | lst {a : Addr} {xs : List V} {ds : List PyData} : H a = some (.lst xs) → a ≠ sysModules → DaAll H xs ds → Da H (.ref a) (.list ds)
  | tup {a : Addr} {xs : List V} {ds : List PyData} : H a = some (.tup xs) → DaAll H xs ds → Da H (.ref a) (.tuple ds)
  | dic {a : Addr} {kvs : List (Key × V)} {ds : List PyData} : H a = some (.dK kvs) → DaAll H (kvs.map (·.2)) ds → Da H (.ref a) (.dict ((kvs.map fun kv => keyD kv.1).zip ds))
inductive DaAll (H : Hp) : List V → List PyData → Prop
  | nil : DaAll H [] []
  | cons {v : V} {vs : List V} {d : PyData} {ds : List PyData} : Da H v d → DaAll H vs ds → DaAll H (v :: vs) (d :: ds)
end
theorem DaAll.length {H : Hp} : ∀ {vs : List V} {ds : List PyData}, DaAll H vs ds → vs.length = ds.length
  | _, _, .nil => rfl
  | _, _, .cons _ t => by rw [List.length_cons, List.length_cons, DaAll.length t]
theorem Da.mono {H H' : Hp} (s : Same H H') {v : V} {d : PyData} (h : Da H v d) : Da H' v d :=
  Da.rec (motive_1 := fun v d _ => Da H' v d) (motive_2 := fun vs ds _ => DaAll H' vs ds) .non .bl .int .str (fun e n _ q => .lst (s _ _ e) n q) (fun e _ q => .tup (s _ _ e) q) (fun e _ q => .dic (s _ _ e) q) .nil (fun _ _ a b => .cons a b) h
theorem DaAll.mono {H H' : Hp} (s : Same H H') {vs : List V} {ds : List PyData} (h : DaAll H vs ds) : DaAll H' vs ds := by
  induction h using DaAll.rec (motive_1 := fun v d _ => True) with
  | nil => exact .nil
  | cons a _ _ b => exact .cons (a.mono s) b
  | _ => trivial

section
variable {X : Cx} {pins : List (Addr × Obj)} {σ : St} {H : Hp} {s : Shared}
/-- how a tracked dict is read -/
theorem dict_reads {P : Program} {w : World} {h : Heap} : ∀ {es : List DictEntry} {kvs : List (Key × Value)} {ks : List (Key × V)}, PySem.Pairs (mixKind P w) es kvs → KV ks kvs →
    ReadsAll h (es.map (·.key)) (ks.map fun kv => keyD kv.1) [] ∧ Vals (ks.map (·.2)) (es.map (·.val))
  | _, _, _, .nil, .nil => ⟨.nil, .nil⟩
  | _, _, _, .cons (e := e) (kv := kv) h1 h2 t, .cons (a := k) r t' => by
    obtain ⟨q1, q2⟩ := dict_reads (h := h) t t'
    have hk : keyIs kv.1 e.key = true := h1
    rw [← r.1] at hk
    have rd : Reads h e.key (keyD k.1) [] := by
      rcases keyIs_shape hk with ⟨i, u, e1, e2⟩ | ⟨x, u, e1, e2⟩
      · rw [e1, e2]; exact .int i u
      · rw [e1, e2]; exact .str x u
    exact ⟨ReadsAll.cons (as := []) (bs := []) rd q1, .cons (show RelV k.2 e.val by rw [h2]; exact r.2) q2⟩
theorem zip_fst : ∀ {α β : Type} (as : List α) (bs : List β), as.length = bs.length → (as.zip bs).map (·.1) = as
  | _, _, [], _, _ => rfl
  | _, _, a :: as, [], h => nomatch h
  | _, _, a :: as, b :: bs, h => by rw [List.zip_cons_cons, List.map_cons, zip_fst as bs (Nat.succ.inj h)]
theorem zip_snd : ∀ {α β : Type} (as : List α) (bs : List β), as.length = bs.length → (as.zip bs).map (·.2) = bs
  | _, _, [], [], _ => rfl
  | _, _, [], b :: bs, h => nomatch h
  | _, _, a :: as, [], h => nomatch h
  | _, _, a :: as, b :: bs, h => by rw [List.zip_cons_cons, List.map_cons, zip_snd as bs (Nat.succ.inj h)]
theorem Da.reads (I : Inv X pins σ H s) {v : V} {d : PyData} (h : Da H v d) : ∀ u : Value, RelV v u → ∃ as, Reads s.heap u d as ∧ sysModules ∉ as := by
  refine Da.rec (motive_1 := fun v d _ => ∀ u : Value, RelV v u → ∃ as, Reads s.heap u d as ∧ sysModules ∉ as) (motive_2 := fun vs ds _ => ∀ us : List Value, Vals vs us → ∃ as, ReadsAll s.heap us ds as ∧ sysModules ∉ as)
    ?_ ?_ ?_ ?_ ?_ ?_ ?_ ?_ ?_ h
  · intro u r
    cases (show u = Value.none from r)
    exact ⟨[], .none, fun z => nomatch z⟩
  · intro b u r
    cases (show u = Value.bool b from r)
    exact ⟨[], .bool b, fun z => nomatch z⟩
  · intro i u r
    obtain ⟨t, rfl⟩ := (show ∃ t, u = Value.int i t from r)
    exact ⟨[], .int i t, fun z => nomatch z⟩
  · intro x u r
    obtain ⟨t, rfl⟩ := (show ∃ t, u = Value.str x t from r)
    exact ⟨[], .str x t, fun z => nomatch z⟩
  · intro a xs ds e n _ ih u r
    cases (show u = Value.ref a from r)
    obtain ⟨_, its, m, rv, ho⟩ := (show ObjOk X.prog X.w H s.heap a (.lst xs) from I.hok a _ e)
    obtain ⟨as, q, z⟩ := ih its rv
    exact ⟨a :: as, .list ho rfl rfl (by simpa using q), fun t => (List.mem_cons.mp t).elim (fun y => n y.symm) z⟩
  · intro a xs ds e _ ih u r
    cases (show u = Value.ref a from r)
    obtain ⟨_, its, rv, o, ho, hc, m, hd⟩ := (show ObjOk X.prog X.w H s.heap a (.tup xs) from I.hok a _ e)
    obtain ⟨as, q, z⟩ := ih its rv
    exact ⟨as, .tuple ho hc hd (by simpa using q), z⟩
  · intro a kvs ds e hall ih u r
    cases (show u = Value.ref a from r)
    obtain ⟨_, ny, vs, rv, o, es, ep, ho, hx, hd, _, pr, _⟩ := (show ObjOk X.prog X.w H s.heap a (.dK kvs) from I.hok a _ e)
    obtain ⟨q1, q2⟩ := dict_reads (h := s.heap) pr rv
    obtain ⟨as, q3, z⟩ := ih _ q2
    have hl : (kvs.map fun kv => keyD kv.1).length = ds.length := by
      have := hall.length
      rw [List.length_map] at this ⊢
      exact this
    refine ⟨a :: [] ++ as, .dict ho hx.1 hd (by rw [zip_fst _ _ hl]; exact q1) (by rw [zip_snd _ _ hl]; exact q3), fun t => ?_⟩
    rcases List.mem_cons.mp (show sysModules ∈ a :: as from t) with y | y
    · exact absurd y.symm (fun y' => by rw [y'] at ny; exact absurd ny (by decide))
    · exact z y
  · intro us r
    cases r
    exact ⟨[], .nil, fun z => nomatch z⟩
  · intro v vs d ds _ _ i1 i2 us r
    cases r with
    | cons r1 r2 =>
      obtain ⟨as, q1, z1⟩ := i1 _ r1
      obtain ⟨bs, q2, z2⟩ := i2 _ r2
      exact ⟨as ++ bs, .cons q1 q2, fun t => (List.mem_append.mp t).elim z1 z2⟩
end

/-- data that repr shows: what is shown has at most n signs, nested at most k deep -/
structure Shows (d : PyData) (n k : Nat) : Prop where
  can : d.showable = true
  few : d.shown.length ≤ n
  flat : d.depth ≤ k
/-- repr(x), x data, where no repr is under way -/
def rRepr : List V → Hp → VK → Prop := fun xs H Q => ∃ (x : V) (d : PyData), xs = [x] ∧ Da H x d ∧ Shows d 16000000 60 ∧ Q (.str d.shown) H
theorem call_reprD {X : Cx} (gd : X.A.guards = some []) (hu : X.A.units + 64 < cLine) : CallR X (.builtin "repr") rRepr := by
  intro pins s σ H xs us Q I r h
  obtain ⟨x, d, rfl, hd, sh, q⟩ := h
  have hz : d.shown.length ≤ sizeLine := Nat.le_trans sh.few (by rw [sizeLine_eq]; decide)
  have hdp := sh.flat
  cases r with
  | @cons _ u _ ur ru rn =>
    cases rn
    obtain ⟨as, rd, hsm⟩ := hd.reads I u ru
    have can := sh.can
    cases hd with
    | non =>
      cases (show u = Value.none from ru)
      exact PySem.P.repr_of_none ⟨.str _, H, I.tok _, ⟨_, rfl⟩, q⟩
    | bl b =>
      cases (show u = Value.bool b from ru)
      exact PySem.P.repr_of_bool ⟨.str _, H, I.tok _, ⟨_, rfl⟩, q⟩
    | int i =>
      obtain ⟨t, rfl⟩ := (show ∃ t, u = Value.int i t from ru)
      exact PySem.P.repr_of_int (by simpa [PyData.showable] using can) ⟨.str _, H, I.tok _, ⟨_, rfl⟩, q⟩
    | str x =>
      obtain ⟨t, rfl⟩ := (show ∃ t, u = Value.str x t from ru)
      exact PySem.P.repr_of_str ⟨.str _, H, I.tok _, ⟨_, rfl⟩, q⟩ hz
    | lst e n ha =>
      cases ru
      exact repr_of_reads' rd can (fun _ => hsm) gd (by omega) (fun _ _ z => z) (fun h' t tk hk => ⟨.str _, H, I.kept hk, ⟨_, rfl⟩, q⟩) hz
    | tup e ha =>
      cases ru
      exact repr_of_reads' rd can (fun _ => hsm) gd (by omega) (fun _ _ z => z) (fun h' t tk hk => ⟨.str _, H, I.kept hk, ⟨_, rfl⟩, q⟩) hz
    | dic e ha =>
      cases ru
      exact repr_of_reads' rd can (fun _ => hsm) gd (by omega) (fun _ _ z => z) (fun h' t tk hk => ⟨.str _, H, I.kept hk, ⟨_, rfl⟩, q⟩) hz

/-- a new list, told not to be the table of modules -/
def tLstN (t : TA) : TE := fun σ H Q => t σ H fun xs H1 => xs.length ≤ sizeLine ∧ ∀ p, H1 p = none → p ≠ sysModules → Q (.ref p) (upd H1 p (.lst xs))
theorem new_ne {X : Cx} {pins : List (Addr × Obj)} {σ : St} {H : Hp} {s : Shared} (I : Inv X pins σ H s) : s.heap.objs.size ≠ sysModules := by
  obtain ⟨o, _, _, e, _⟩ := I.ok.mod.glob
  have h3 : mainGlobals < X.base.objs.size := Heap.lt_size e
  have h4 : X.base.objs.size ≤ s.heap.objs.size := Nat.le_trans I.ok.bsz I.sz
  have h5 : sysModules < mainGlobals := by decide
  exact Nat.ne_of_gt (Nat.lt_of_lt_of_le (Nat.lt_trans h5 h3) h4)
theorem pe_lstN {X : Cx} {es : List Expr} {t : TA} {pos : Pos} (h : PA X es t) : PE X (.List es pos) (tLstN t) := by
  refine ⟨fun pins s σ H Q I hq => wpAny_List_spliced (thn (h.run pos pins s σ H _ I hq) fun us s1 hh => ?_)⟩
  obtain ⟨xs, H1, J, r, z, q⟩ := hh
  refine ⟨by rw [← r.length]; exact z, .ref s1.heap.objs.size, upd H1 s1.heap.objs.size (.lst xs), ?_, rfl, q _ (J.hok.fresh (Nat.le_refl _)) (new_ne J)⟩
  exact J.laid (t' := s1.toks) (fun b u e => Heap.get?_push_of_some _ e) (Nat.le_refl _) ⟨z, us, 0, r, Heap.get?_push_size _ rfl⟩
end L2.Fu
/-! ## Exceptions held as values -/
namespace L2.Fu
open PySem PySem.Spec PyProof.Rows

/-- C(e, ..) as a value: the exception stays tracked -/
def tMkV (C : Addr) (sp : Sp) (ta : TA) : TE := fun σ H Q => ta σ H fun vs H1 => vs.length ≤ 1000 ∧ ∀ a, H1 a = none → sp (.ref a :: vs) (upd H1 a (exo a C none)) (fun v H2 => v = .non ∧ Q (.ref a) H2) (fun _ _ _ => False)
theorem pe_excI {X : Cx} {x : Str} {C fI : Addr} {k : Nat} {fd : FuncData} {ps : List Str} {sp : Sp} {e : Expr} {es : List Expr} {ta : TA} {p pos : Pos} (T : OexC X.K C) (iC : PySem.W.findIn X.K (.ref C) "__init__" = some (some (.ref fI))) (tI : PySem.W.typeIn X.K (.ref fI) = some (.type "function"))
    (F1 : FnOk X.prog X.w X.K X.mg X.base CX0 k fI fd ps sp) (hr : Room (k + 1) X.A) (hb : Binds X.K fd ps []) (hg : Gl X x) (hm : X.mg x = some (.ref C)) (ha : PA X (e :: es) ta)
    (hdb : (x == ("__debug__" : Str)) = false := by decide) (he : starEach (e :: es) X.env = (false, eval e X.env) :: starEach es X.env := by rfl) (hpl : (backTo pos (starEach es X.env)).any (·.1) = false := by rfl) :
    PE X (.Call (.Name x p) (e :: es) [] pos) (tMkV C sp ta) := by
  refine ⟨fun pins s σ H Q I h => wpAny_Call_Name_kw (ld_glob I hg hm ?_ hdb)⟩
  obtain ⟨nm, q, N, bs, bm, sn, sub, ab, col, dd, k0, k1, k2, k3, k5, hC, hbm⟩ := T.cls
  refine PySem.W.callWith_K (h₀ := X.base) I.ok.mod.kin T.kC (thn (ha.run pos pins s σ H _ I h) fun us s1 hh => ?_) he hpl
  obtain ⟨vs, H1, J, r, hz, q1⟩ := hh
  refine ⟨J.kIn, ?_⟩
  show wpAny _ _ (call (.ref C) us) _ _ _
  obtain ⟨hp, g, dr, tk, os⟩ := s1
  have grow : ∀ b o, hp.get? b = some o → ((hp.push (PySem.W.kdv_tup us)).push (PySem.HandSPX.excO C hp.objs.size)).get? b = some o := fun b o e => Heap.get?_push_of_some _ (Heap.get?_push_of_some _ e)
  have new : ((hp.push (PySem.W.kdv_tup us)).push (PySem.HandSPX.excO C hp.objs.size)).get? (hp.objs.size + 1) = some (PySem.HandSPX.excO C hp.objs.size) := by heap_get
  have J2 : Inv X pins σ (upd H1 (hp.objs.size + 1) (exo (hp.objs.size + 1) C none)) ⟨(hp.push (PySem.W.kdv_tup us)).push (PySem.HandSPX.excO C hp.objs.size), g, dr, tk, os⟩ :=
    J.laid (t' := tk) (a := hp.objs.size + 1) (o := exo (hp.objs.size + 1) C none) (h' := (hp.push (PySem.W.kdv_tup us)).push (PySem.HandSPX.excO C hp.objs.size)) grow (Nat.le_succ _) (exo_ok new)
  have hq := q1 (hp.objs.size + 1) (J.hok.fresh (Nat.le_succ _))
  have rr : Vals (V.ref (hp.objs.size + 1) :: vs) (Value.ref (hp.objs.size + 1) :: us) := .cons rfl r
  have ll : ((Value.ref (hp.objs.size + 1) :: us) ++ ([] : List Value)).length = ps.length := by
    rw [List.append_nil, ← rr.length]
    exact F1.len _ _ _ _ hq
  have hb2 := hb ⟨(hp.push (PySem.W.kdv_tup us)).push (PySem.HandSPX.excO C hp.objs.size), g, dr, tk, os⟩ (Value.ref (hp.objs.size + 1) :: us) J2.kIn ll
  rw [List.append_nil] at hb2
  have few : us.length ≤ sizeLine := by
    rw [← Paired.length r, sizeLine_eq]
    omega
  refine wpAny_call (PySem.HandSPX.call_own F.excBase_ValueError (fun Y => PySem.HandSPX.refsVE_contains Y bm hbm) (J.kIn _ _ hC) (PySem.W.looks_findIn J.kIn iC) (fun self => PySem.W.bind_fn J.kIn self tI) few
    (codeAny_mono (F1.run _ X.stack _ _ ⟨Value.ref (hp.objs.size + 1) :: us, []⟩ (Value.ref (hp.objs.size + 1) :: us) _ _ (fun _ _ _ => False) (hr.make C us []) (J2.env0.make C us []) hb2 rr hq) fun res s2 hq2 => ?_))
  match res, hq2 with
  | .error er, hq2 => exact hq2.elim
  | .ok .next, hq2 => exact hq2.elim
  | .ok .brk, hq2 => exact hq2.elim
  | .ok .cont, hq2 => exact hq2.elim
  | .ok (.ret u), hq2 =>
    obtain ⟨v, H2, J3, rv, ev, q3⟩ := J2.after hq2
    subst ev
    exact ⟨rv, .ref (hp.objs.size + 1), H2, J3, rfl, q3⟩

/-- C(), an own exception class without own __init__ -/
theorem pe_exc0 {X : Cx} {C : Addr} {bmB : List Value} {B newId initId : String} {x : Str} {p pos : Pos} (F : ExcBaseFacts B newId initId bmB) (q : PySem.W.excIn X.K C bmB newId = true) (gC : X.mg x = some (.ref C)) (kC : PySem.W.keepIn X.K (.ref C) = true) (hg : Gl X x)
    (hdb : (x == ("__debug__" : Str)) = false := by decide) : PE X (.Call (.Name x p) [] [] pos) (fun σ H Q => ∀ a, H a = none → Q (.ref a) (upd H a (ExO (.ref C) a))) := by
  refine ⟨fun pins s σ H Q I h => wpAny_Call_Name_kw (ld_glob I hg gC ?_ hdb)⟩
  refine PySem.W.callWith_K0 I.kIn kC ?_
  obtain ⟨bm, N, nm, qn, bs, hdct, sn, sub, ab, col, dd, k0, k1, k2, k3, k5, mN, hC, hN, hni, T⟩ := exc_obj I.kIn q
  refine wpAny_call_exc_subT F T hC hN hni (fun h' a hm => ?_) (by show 0 ≤ sizeLine; exact Nat.zero_le _)
  have free : H a = none := I.hok.gone hm.new
  obtain ⟨t, ht, _, _⟩ := hm.there
  exact ⟨.ref a, upd H a (ExO (.ref C) a), I.laidN hm.keeps hm.new free (exO_ok ht ⟨rfl, rfl⟩ rfl rfl rfl (show 4 < 6 by decide)), rfl, h a free⟩

/-- e.f of an exception that is held -/
def tXv (K : PySem.W.Frag) (f : Str) (te : TE) : TE := fun σ H Q => te σ H fun x H1 => ∃ (a C dx : Addr) (fs : List (Str × V)) (v : V), x = .ref a ∧ XfC K C ∧ PySem.W.findIn K (.ref C) f = some none ∧
  H1 a = some (exo a C (some dx)) ∧ H1 dx = some (exd dx fs) ∧ fs.lookup f = some v ∧ Q v H1
theorem pe_xv {X : Cx} {e : Expr} {te : TE} {pos : Pos} {f : Str} (he : PE X e te) (hb : attributeBase e f X.env (eval e X.env) = eval e X.env := by rfl) : PE X (.Attribute e f pos) (tXv X.K f te) := by
  refine ⟨fun pins s σ H Q I h => attr_of hb (thn (he.run pins s σ H _ I h) fun u s1 hh => ?_)⟩
  obtain ⟨x, H1, J, rx, a, C, dx, fs, v, rfl, T, no, ea, ed, l, q⟩ := hh
  cases rx
  obtain ⟨t1, ho⟩ := exo_at J.hok ea
  obtain ⟨mA, hns, rel⟩ := exd_at J.hok ed
  obtain ⟨od, hod, hl⟩ := lookIn_ns hns
  obtain ⟨z, hz, rz⟩ := RelO.some_of (v := v) (o := mA f) (by rw [← l]; exact rel f)
  have W : PySem.W.InstAt s1.heap a { cls := .ref C, dict := some dx, data := .fields #[.ref t1, .none, .none, .none, .bool false, .none] } C (some od) := ⟨ho, rfl, rfl, hod⟩
  exact HandSPX.exc_get J.kIn W T.ga T.gg T.exC (PySem.W.findObj_own T.hdC no rfl (by rw [hl, hz])) (handed_of rz) ⟨v, H1, J.tok _, rz, q⟩

/-- at a stands an exception of the class at D -/
def IsX (H : Hp) (a D : Addr) : Prop := (∃ (dx : Addr) (fs : List (Str × V)), H a = some (exo a D (some dx)) ∧ H dx = some (exd dx fs)) ∨ H a = some (ExO (.ref D) a)
theorem IsX.inst {X : Cx} {pins : List (Addr × Obj)} {σ : St} {H : Hp} {s : Shared} {a D : Addr} (I : Inv X pins σ H s) (h : IsX H a D) : ∃ ox od, PySem.W.InstAt s.heap a ox D od := by
  rcases h with ⟨dx, fs, ea, ed⟩ | ea
  · obtain ⟨t1, ho⟩ := exo_at I.hok ea
    obtain ⟨mA, hns, _⟩ := exd_at I.hok ed
    obtain ⟨od, hod, _⟩ := lookIn_ns hns
    exact ⟨_, some od, ho, rfl, rfl, hod⟩
  · obtain ⟨⟨oe, vs, ho, hz, hd, _⟩, _, _⟩ := I.hok a _ ea
    obtain ⟨oc, odd, oda, osl⟩ := oe
    obtain ⟨h1, h2⟩ := hz
    dsimp only at h1 h2 hd
    subst h1 h2 hd
    exact ⟨_, none, ho, rfl, rfl, trivial⟩
/-- isinstance(x, c), x an exception that is held -/
def rIsX (K : PySem.W.Frag) : List V → Hp → VK → Prop := fun xs H Q => ∃ (a D : Addr) (c : V) (cv : Value) (b : Bool), xs = [.ref a, c] ∧ IsX H a D ∧ ExcC K D ∧ ClsV c cv ∧ PySem.W.kitOne K (.ref D) cv = some b ∧ Q (.bl b) H
theorem call_isX {X : Cx} : CallR X (.builtin "isinstance") (rIsX X.K) := by
  intro pins s σ H xs us Q I r h
  obtain ⟨a, D, c, cv, b, rfl, hx, C, k, e, q⟩ := h
  obtain ⟨u1, u2, rfl, r1, r2⟩ := vals2 r
  cases (show u1 = Value.ref a from r1)
  have e2 := k.eq r2
  subst e2
  obtain ⟨ox, od, J⟩ := hx.inst I
  obtain ⟨cd, hc, _⟩ := PySem.W.any_some C.hd
  exact PySem.W.kia_one (PySem.W.kitx_exc (by rw [hc]; rfl) C.hg C.hk C.hs C.ha C.hn C.ht C.hm) I.kIn J e (fun z => nomatch z) fun tk => ⟨.bl b, H, I.tok tk, rfl, q⟩
end L2.Fu
/-! ## The law's hand: a number and a count, from which it draws -/
namespace L2.Fu
open PySem PySem.Spec PyProof.Rows

/-- at p stands a hand of which at most n draws were taken; all of H0, where p is not, stands as it was -/
def Hand (H0 H : Hp) (p : Addr) (n : Nat) : Prop := Same H0 H ∧ H0 p = none ∧ ∃ g a c : Int, H p = some (.lst [.int g, .int a, .int c]) ∧ 0 ≤ a ∧ a < 2147483647 ∧ 0 ≤ c ∧ c ≤ (n : Int)
theorem Hand.at {H0 H : Hp} {p : Addr} {n : Nat} (h : Hand H0 H p n) : ∃ xs, H p = some (.lst xs) := by
  obtain ⟨_, _, g, a, c, e, _⟩ := h
  exact ⟨_, e⟩
theorem Hand.ne {H0 H : Hp} {p q : Addr} {n : Nat} (h : Hand H0 H p n) (f : H q = none) : q ≠ p := by
  obtain ⟨_, e⟩ := h.at
  exact fun z => by rw [z, e] at f; cases f
theorem Hand.mono {H0 H : Hp} {p : Addr} {m n : Nat} (h : Hand H0 H p m) (l : m ≤ n) : Hand H0 H p n := by
  obtain ⟨s, z, g, a, c, e, a0, a1, c0, c1⟩ := h
  exact ⟨s, z, g, a, c, e, a0, a1, c0, by omega⟩
/-- an object elsewhere is laid or changed: it is told -/
theorem Hand.upd {H0 H : Hp} {p q : Addr} {n : Nat} {o : HO} (h : Hand H0 H p n) (ne : q ≠ p) : Hand (upd H0 q o) (upd H q o) p n := by
  obtain ⟨s, z, g, a, c, e, r⟩ := h
  refine ⟨fun b u k => ?_, by rw [upd_ne (Ne.symm ne)]; exact z, g, a, c, by rw [upd_ne (Ne.symm ne)]; exact e, r⟩
  by_cases hb : b = q
  · subst hb
    rw [upd_same] at k ⊢
    exact k
  · rw [upd_ne hb] at k ⊢
    exact s b u k
/-- an object elsewhere that H0 doesn't tell of is laid or changed -/
theorem Hand.off {H0 H : Hp} {p q : Addr} {n : Nat} {o : HO} (h : Hand H0 H p n) (ne : q ≠ p) (f : H0 q = none) : Hand H0 (L2.upd H q o) p n := by
  obtain ⟨s, z, g, a, c, e, r⟩ := h
  refine ⟨fun b u k => ?_, z, g, a, c, by rw [upd_ne (Ne.symm ne)]; exact e, r⟩
  have hb : b ≠ q := fun t => by rw [t, f] at k; cases k
  rw [upd_ne hb]
  exact s b u k
/-- an object elsewhere is told of -/
theorem Hand.own {H0 H : Hp} {p q : Addr} {n : Nat} {o : HO} (h : Hand H0 H p n) (ne : q ≠ p) (f : H q = some o) : Hand (L2.upd H0 q o) H p n := by
  obtain ⟨s, z, r⟩ := h
  refine ⟨fun b u k => ?_, by rw [upd_ne (Ne.symm ne)]; exact z, r⟩
  by_cases hb : b = q
  · subst hb
    rw [upd_same] at k
    rw [f]
    exact k
  · rw [upd_ne hb] at k
    exact s b u k
theorem same_new {H : Hp} {q : Addr} {o : HO} (f : H q = none) : Same H (upd H q o) := fun b u k => by
  rw [upd_ne (ne_of_none k f)]
  exact k
/-- H without what stands at p -/
theorem same_del {H0 H : Hp} {p : Addr} (s : Same H0 H) (f : H0 p = none) : Same H0 (delH H p) := fun b u k => by
  have hb : b ≠ p := fun t => by rw [t, f] at k; cases k
  rw [delH_ne hb]
  exact s b u k
theorem del_sub {H : Hp} {p : Addr} : Same (delH H p) H := fun b u k => by
  by_cases hb : b = p
  · rw [hb, delH_same] at k
    cases k
  · rw [delH_ne hb] at k
    exact k
theorem Hand.full {H0 H : Hp} {p : Addr} {n : Nat} (h : Hand H0 H p n) : Hand (delH H p) H p n := by
  obtain ⟨_, _, r⟩ := h
  exact ⟨del_sub, delH_same, r⟩

/-- _law_hand(script, k) -/
def spHand (K : PySem.W.Frag) : Sp := fun vs H Q _ => ∃ (a : Addr) (ns : List Int) (k : Int), vs = [.ref a, .int k] ∧ SqL K H a (ns.map V.int) ∧ 0 ≤ k ∧ k ≤ 1000 ∧ ∀ (H' : Hp) (p : Addr), Hand H H' p 0 → Q (.ref p) H'
/-- _law_take(hand, m) -/
def spTake : Sp := fun vs H Q _ => ∃ (H0 : Hp) (p : Addr) (n : Nat) (m : Int), vs = [.ref p, .int m] ∧ 0 < m ∧ m < 2 ^ 60 ∧ n < 1000000000 ∧ Hand H0 H p n ∧ ∀ (H' : Hp) (d : Int), 0 ≤ d → d < m → Hand H0 H' p (n + 1) → Q (.int d) H'
/-- _law_of(hand, some) -/
def spOf (K : PySem.W.Frag) : Sp := fun vs H Q _ => ∃ (H0 : Hp) (p l : Addr) (n : Nat) (xs : List V), vs = [.ref p, .ref l] ∧ SqL K H0 l xs ∧ xs ≠ [] ∧ xs.length ≤ 1000000 ∧ n < 1000000000 ∧ Hand H0 H p n ∧ ∀ (H' : Hp) (v : V), v ∈ xs → Hand H0 H' p (n + 1) → Q v H'

theorem bit_small (b : Bool) : -(2 ^ 64) < (if b = true then (1 : Int) else 0) ∧ (if b = true then (1 : Int) else 0) < 2 ^ 64 := by cases b <;> decide
theorem big_pos : (0 : Int) < (10 : Int) ^ (60 : Int).toNat * (10 : Int) ^ (60 : Int).toNat * (10 : Int) ^ (60 : Int).toNat := by decide +kernel
theorem big_one : ((10 : Int) ^ (60 : Int).toNat).natAbs < 2 ^ 200 := by decide +kernel
theorem big_two : ((10 : Int) ^ (60 : Int).toNat * (10 : Int) ^ (60 : Int).toNat).natAbs < 2 ^ 400 := by decide +kernel
theorem prime_at (c : Int) (h0 : 0 ≤ c) : ∃ pr : Int, atI [V.int 2147483647, V.int 2147483629, V.int 2147483587, V.int 2147483579, V.int 2147483563] (c % 5) = some (V.int pr) ∧ 0 < pr ∧ pr < 2 ^ 32 := by
  have l0 : 0 ≤ c % 5 := Int.emod_nonneg _ (by decide)
  have l1 : c % 5 < 5 := Int.emod_lt_of_pos _ (by decide)
  generalize c % 5 = i at l0 l1
  obtain ⟨j, rfl⟩ := Int.eq_ofNat_of_zero_le l0
  have lj : j < 5 := by omega
  match j, lj with
  | 0, _ => exact ⟨2147483647, atI_nat rfl, by decide, by decide⟩
  | 1, _ => exact ⟨2147483629, atI_nat rfl, by decide, by decide⟩
  | 2, _ => exact ⟨2147483587, atI_nat rfl, by decide, by decide⟩
  | 3, _ => exact ⟨2147483579, atI_nat rfl, by decide, by decide⟩
  | 4, _ => exact ⟨2147483563, atI_nat rfl, by decide, by decide⟩
theorem small_pow {a c : Int} {n : Nat} (a0 : 0 ≤ a) (a1 : a < 2147483647) (c0 : 0 ≤ c) (c1 : c ≤ (n : Int)) (hn : n < 1000000000) : (a + 7919 * (c + 1)).natAbs < 2 ^ 64 := by omega
end L2.Fu
namespace L2.Fu
open PySem PySem.Spec PyProof.Rows
/-- a reading may be made stronger -/
theorem pe_imp {X : Cx} {e : Expr} {t : TE} (t' : TE) (p : PE X e t) (h : ∀ σ H Q, t' σ H Q → t σ H Q) : PE X e t' := ⟨fun pins s σ H Q I q => p.run pins s σ H Q I (h σ H Q q)⟩
/-- script[k] if k < len(script) else 0: some int -/
def tCell (K : PySem.W.Frag) : TE := fun σ H Q => ∃ (a : Addr) (ns : List Int) (k : Int), σ[0]? = some (some (.ref a)) ∧ σ[1]? = some (some (.int k)) ∧ SqL K H a (ns.map V.int) ∧ 0 ≤ k ∧ ∀ c : Int, Q (.int c) H
theorem atI_in {α : Type} {xs : List α} {i : Int} (h0 : 0 ≤ i) (h1 : i < (xs.length : Int)) : ∃ v, atI xs i = some v ∧ v ∈ xs := by
  obtain ⟨j, rfl⟩ := Int.eq_ofNat_of_zero_le h0
  have lj : j < xs.length := by omega
  exact ⟨xs[j], atI_nat (List.getElem?_eq_getElem lj), List.getElem_mem lj⟩
end L2.Fu
/-! ## How long what is shown is -/
namespace L2.Fu
open PySem PySem.Spec PyProof.Rows
structure ShowsAll (ds : List PyData) (n k : Nat) : Prop where
  can : PyData.showableAll ds = true
  few : piled (PyData.shownAll ds) ≤ n
  flat : PyData.depthAll ds ≤ k
theorem ShowsAll.nil (k : Nat) : ShowsAll [] 0 k := ⟨by simp only [PyData.showableAll], Nat.le_refl 0, Nat.zero_le k⟩
theorem ShowsAll.cons {d : PyData} {ds : List PyData} {n m k : Nat} (h : Shows d n k) (t : ShowsAll ds m k) : ShowsAll (d :: ds) (n + 2 + m) k :=
  ⟨by simp only [PyData.showableAll, h.can, t.can, Bool.and_self], by
      simp only [PyData.shownAll, piled_cons]
      have := h.few
      have := t.few
      omega, by
      simp only [PyData.depthAll]
      exact Nat.max_le.mpr ⟨h.flat, t.flat⟩⟩
theorem join_len (ts : List Str) : (Str.join ", " ts).length ≤ piled ts := by
  by_cases h : ts = []
  · subst h
    exact Nat.zero_le _
  · have := join_length_add ts h
    omega
theorem textFrom_le : ∀ (ts : List Str) (k : Nat) (acc : Str), (textFrom k acc ts).length ≤ acc.length + piled ts
  | [], k, acc => Nat.le_add_right _ _
  | t :: r, k, acc => by
    have ih := textFrom_le r (k + 1) (acc ++ (if k > 0 then ", " else "" : String) ++ t)
    have e : (acc ++ (if k > 0 then ", " else "" : String) ++ t).length ≤ acc.length + 2 + t.length := by
      rw [strLen_append, strLen_append]
      by_cases hk : k > 0
      · rw [if_pos hk]
        exact Nat.le_refl _
      · rw [if_neg hk]
        show acc.length + 0 + t.length ≤ _
        omega
    rw [piled_cons]
    show (textFrom (k + 1) (acc ++ (if k > 0 then ", " else "" : String) ++ t) r).length ≤ _
    omega
theorem Shows.lst {ds : List PyData} {n k : Nat} (h : ShowsAll ds n k) : Shows (.list ds) (n + 2) (k + 1) :=
  ⟨by simp only [PyData.showable, h.can], by
      simp only [PyData.shown]
      have e : (listText (PyData.shownAll ds)).length = (textFrom 0 "[" (PyData.shownAll ds)).length + 1 := by
        unfold listText
        rw [strLen_append]
        rfl
      have l := textFrom_le (PyData.shownAll ds) 0 "["
      have o : (("[" : String) : Str).length = 1 := rfl
      have := h.few
      rw [o] at l
      omega, by
      simp only [PyData.depth]
      exact Nat.succ_le_succ h.flat⟩
theorem Shows.tup {ds : List PyData} {n k : Nat} (h : ShowsAll ds n k) : Shows (.tuple ds) (n + 3) (k + 1) :=
  ⟨by simp only [PyData.showable, h.can], by
      simp only [PyData.shown]
      have e : (tupleText (PyData.shownAll ds)).length ≤ 1 + (Str.join ", " (PyData.shownAll ds)).length + 2 := by
        unfold tupleText
        rw [strLen_append, strLen_append]
        by_cases hk : ((PyData.shownAll ds).length == 1) = true
        · rw [if_pos hk]
          exact Nat.le_refl _
        · rw [if_neg hk]
          show 1 + _ + 1 ≤ _
          omega
      have l := join_len (PyData.shownAll ds)
      have := h.few
      omega, by
      simp only [PyData.depth]
      exact Nat.succ_le_succ h.flat⟩
theorem Shows.more {d : PyData} {n k n' k' : Nat} (h : Shows d n k) (a : n ≤ n') (b : k ≤ k') : Shows d n' k' := ⟨h.can, Nat.le_trans h.few a, Nat.le_trans h.flat b⟩
theorem ShowsAll.more {d : List PyData} {n k n' k' : Nat} (h : ShowsAll d n k) (a : n ≤ n') (b : k ≤ k') : ShowsAll d n' k' := ⟨h.can, Nat.le_trans h.few a, Nat.le_trans h.flat b⟩
theorem Shows.dic1 {x : Str} {d : PyData} {n k : Nat} (hx : (reprText x).length ≤ 20) (h : Shows d n k) : Shows (.dict [(.str x, d)]) (n + 24) (k + 1) :=
  ⟨by simp only [PyData.showable, PyData.showableKv, h.can, Bool.and_self], by
      simp only [PyData.shown, PyData.shownKv]
      have e : (dictText [reprText x ++ ": " ++ d.shown]).length = 1 + ((reprText x).length + 2 + d.shown.length) + 1 := by
        unfold dictText
        rw [strLen_append, strLen_append]
        show 1 + (reprText x ++ ": " ++ d.shown).length + 1 = _
        rw [strLen_append, strLen_append]
        rfl
      have := h.few
      omega, by
      simp only [PyData.depth, PyData.depthKv]
      have := h.flat
      omega⟩
theorem same_two {H : Hp} {q : Addr} {o u : HO} (f : H q = none) : Same H (upd (upd H q o) q u) := fun b x k => by
  rw [upd_ne (ne_of_none k f), upd_ne (ne_of_none k f)]
  exact k
/-- some data that is shown in at most 40 signs -/
def Dat (H : Hp) (v : V) : Prop := ∃ d, Da H v d ∧ Shows d 60 4
theorem Dat.mono {H H' : Hp} {v : V} (s : Same H H') (h : Dat H v) : Dat H' v := by
  obtain ⟨d, a, b⟩ := h
  exact ⟨d, a.mono s, b⟩
theorem dat_non {H : Hp} : Dat H .non := ⟨_, .non, by decide +kernel, by decide +kernel, by decide +kernel⟩
theorem dat_bl {H : Hp} (b : Bool) : Dat H (.bl b) := ⟨_, .bl b, by cases b <;> decide +kernel, by cases b <;> decide +kernel, by cases b <;> decide +kernel⟩
theorem dat_int {H : Hp} (i : Int) (h1 : i.natAbs.log2 < 1920) (h2 : (PyData.int i).shown.length ≤ 60) : Dat H (.int i) := ⟨_, .int i, by simp only [PyData.showable, h1, decide_true], h2, by simp only [PyData.depth]; omega⟩
theorem shows_str {x : Str} {n k : Nat} (h : (reprText x).length ≤ n) : Shows (.str x) n k := ⟨by simp only [PyData.showable], by simp only [PyData.shown]; exact h, by simp only [PyData.depth]; exact Nat.zero_le _⟩
theorem dat_str {H : Hp} (x : Str) (h : (reprText x).length ≤ 60) : Dat H (.str x) := ⟨_, .str x, shows_str h⟩
end L2.Fu
/-! ## enumerate over a list -/
namespace L2.Fu
open PySem PySem.Spec PyProof.Rows
theorem for_enum {K : PySem.W.Frag} {a : Addr} {xs : List V} {g : TG} {tb : TS} {D : Ends} {σ : St} {H : Hp} (Pv : Nat → St → Hp → Prop) (h0 : Pv 0 σ H) (hl : ∀ i σ H, Pv i σ H → SqL K H a xs)
    (hs : ∀ i x T σ H, xs[i]? = some x → H T = none → Pv i σ H → g (.ref T) σ (upd H T (.tup [.int ((i : Nat) : Int), x])) fun σ2 H2 => tb { D with nx := Pv (i + 1), ct := Pv (i + 1), bk := D.nx } σ2 H2) (hd : ∀ σ H, Pv xs.length σ H → D.nx σ H) :
    ∃ W : Nat → Nat → St → Hp → Prop, (∃ m, W 0 m σ H) ∧ ∀ i m σ H, W i m σ H →
      ((Ite K a).stop i H ∧ D.nx σ H) ∨ ((Ite K a).go i H ∧ ∃ N : St → Hp → Prop, (∀ σ' H', N σ' H' → ∃ m', m' < m ∧ W (i + 1) m' σ' H') ∧ ∀ x H', (Ite K a).yld i H x H' → g x σ H' fun σ2 H2 => tb { D with nx := N, ct := N, bk := D.nx } σ2 H2) := by
  refine ⟨fun i m σ H => m + i = xs.length ∧ Pv i σ H, ⟨xs.length, rfl, h0⟩, ?_⟩
  rintro i m σ H ⟨hm, pv⟩
  have q := hl i σ H pv
  by_cases lt : i < xs.length
  · have at_i : xs[i]? = some xs[i] := List.getElem?_eq_getElem lt
    refine .inr ⟨⟨xs, xs[i], q, at_i⟩, Pv (i + 1), fun σ' H' p' => ⟨m - 1, by omega, by omega, p'⟩, ?_⟩
    rintro x H' ⟨T, y, rfl, nT, rfl, hy⟩
    exact hs i y T σ H (hy xs q) nT pv
  · obtain rfl : i = xs.length := by omega
    exact .inl ⟨⟨xs, q, Nat.le_refl _⟩, hd σ H pv⟩
theorem lc_enum {K : PySem.W.Frag} {a : Addr} {xs : List V} {g : TG} {tt : TT} {te : TE} {vs : List Nat} {σ : St} {H1 : Hp} {D : Addr} {Qd : Hp → Prop} (Pv : Nat → Hp → Prop) (h0 : Pv 0 (upd H1 D (.lst []))) (hl : ∀ i H, Pv i H → SqL K H a xs)
    (hs : ∀ i x T H, xs[i]? = some x → H T = none → Pv i H → g (.ref T) (wipe σ vs) (upd H T (.tup [.int ((i : Nat) : Int), x])) fun σ2 H2 => wipe σ2 vs = wipe σ vs ∧ tt σ2 H2 fun b H3 =>
      if b = true then te σ2 H3 fun y H4 => ∃ acc, H4 D = some (.lst acc) ∧ acc.length < sizeLine ∧ Pv (i + 1) (upd H4 D (.lst (acc ++ [y]))) else Pv (i + 1) H3) (hd : ∀ H, Pv xs.length H → Qd H) :
    ∃ W : Nat → Nat → Hp → Prop, (∃ m, W 0 m (upd H1 D (.lst []))) ∧ ∀ i m H, W i m H →
      ((Ite K a).stop i H ∧ Qd H) ∨ ((Ite K a).go i H ∧ ∃ Nx : Hp → Prop, (∀ H', Nx H' → ∃ m', m' < m ∧ W (i + 1) m' H') ∧ ∀ x H', (Ite K a).yld i H x H' → g x (wipe σ vs) H' fun σ2 H2 => wipe σ2 vs = wipe σ vs ∧ tt σ2 H2 fun b H3 =>
        if b = true then te σ2 H3 fun y H4 => ∃ acc, H4 D = some (.lst acc) ∧ acc.length < sizeLine ∧ Nx (upd H4 D (.lst (acc ++ [y]))) else Nx H3) := by
  refine ⟨fun i m H => m + i = xs.length ∧ Pv i H, ⟨xs.length, rfl, h0⟩, ?_⟩
  rintro i m H ⟨hm, pv⟩
  have q := hl i H pv
  by_cases lt : i < xs.length
  · have at_i : xs[i]? = some xs[i] := List.getElem?_eq_getElem lt
    refine .inr ⟨⟨xs, xs[i], q, at_i⟩, Pv (i + 1), fun H' p' => ⟨m - 1, by omega, by omega, p'⟩, ?_⟩
    rintro x H' ⟨T, y, rfl, nT, rfl, hy⟩
    exact hs i y T H (hy xs q) nT pv
  · obtain rfl : i = xs.length := by omega
    exact .inl ⟨⟨xs, q, Nat.le_refl _⟩, hd H pv⟩
end L2.Fu
/-! ## Sets of texts, and how they are sorted -/
namespace L2.Fu
open PySem PySem.Spec PyProof.Rows
open PySem.Froz (SD sObj TxOk addTx tailTx add_x add_ok is_str get_upd)
/-- at a the set of the texts l stands, and its table can be walked -/
def TxR (P : Program) (w : World) (h : Heap) (a : Addr) (l : List Str) : Prop :=
  ∃ D : SD, h.get? a = some (sObj "set" D) ∧ TxOk P w D l ∧ l.Nodup ∧ l.length < scanBound ∧ Ris D.2.2.place.toList ∧ (w.params.followText "set-order" = true ∨ D.2.2.led = true)
def SetT (P : Program) (w : World) (a : Addr) (l : List Str) : HO := .ext fun h => TxR P w h a l
theorem ris_tail (ep : Nat) (es : Array (Int × Value)) {t : SetTable} (wd : Bool) (r : Ris t.place.toList) : Ris (tailTx ep es t wd).2.2.place.toList := by
  unfold tailTx
  split
  · exact relayAll_ris t es _
  · exact r
theorem led_tail (ep : Nat) (es : Array (Int × Value)) (t : SetTable) (wd : Bool) : (tailTx ep es t wd).2.2.led = t.led := by
  unfold tailTx
  split
  · exact relayAll_led t es _
  · rfl
theorem ris_add (h : Int) (v : Value) {D : SD} (r : Ris D.2.2.place.toList) : Ris (addTx h v D).2.2.place.toList := by
  unfold addTx
  refine ris_tail _ _ _ ?_
  have q := layNew_ris D.2.2 D.1 h v r
  split
  · exact q
  · exact q
theorem led_add (h : Int) (v : Value) (D : SD) : (addTx h v D).2.2.led = D.2.2.led := by
  unfold addTx
  rw [led_tail]
  have q := layNew_led D.2.2 D.1 h v
  split
  · exact q
  · exact q
section
variable {P : Program} {w : World} {h h' : Heap} {a : Addr} {l : List Str}
theorem TxR.at (R : TxR P w h a l) (k : ∀ o, h.get? a = some o → h'.get? a = some o) : TxR P w h' a l := by
  obtain ⟨D, e, r⟩ := R
  exact ⟨D, k _ e, r⟩
theorem setT_new {H : Hp} (R : TxR P w h a l) : ObjOk P w H h a (SetT P w a l) := by
  obtain ⟨D, e, r⟩ := id R
  exact ⟨R, ⟨_, e⟩, fun h1 h2 p k => p.at k⟩
theorem TxR.setOf (R : TxR P w h a l) : h.SetOf (strKind P w) a (fun k => decide (k ∈ l)) l.length := by
  obtain ⟨⟨es, ep, t⟩, e, F, nd, hb, _⟩ := R
  have sz : es.size = l.length := F.sz
  exact ⟨_, es, ep, t, e, ⟨rfl, rfl, rfl⟩, rfl, F.el, fun k => by rw [decide_eq_true_eq]; exact F.mem k, by rw [sz]; exact hb, F.fit, sz⟩
end
section
variable {P : Program} {w : World} {A : Around} {E : Value → Shared → Prop} {s : Shared} {a : Addr} {l : List Str}
/-- add of a text that is there -/
theorem had_x {T : String} {D : SD} {k : Str} {u : Tok} {Q : Bool → Shared → Prop} (ho : s.heap.get? a = some (sObj T D)) (F : TxOk P w D l) (hk : k ∈ l) (hb : l.length < scanBound) (h : Q false s) :
    wpAny (model P w) A (setAddHashed a (.str k u) (hashStr w k)) Q E s := by
  obtain ⟨es, ep, t⟩ := D
  have sz : es.size = l.length := F.sz
  have el : ElemsOf (strKind P w) es.toList := F.el
  unfold setAddHashed setAddHashedIn
  refine wpAny_holding (wpAny_bind (wpAny_setState_of ho rfl F.fit ?_))
  dsimp only
  rw [byScan_of (knd := strKind P w) rfl (by rw [sz]; exact hb) el]
  simp only [↓reduceIte]
  unfold setAddByScan
  refine wpAny_bind (wpAny_bind (wpAny_rule (wpAny_bind (wpAny_setScan_of (knd := strKind P w) (k := k) (is_str k u) ho rfl F.fit el ?_))))
  obtain ⟨e, he, q⟩ := (F.mem k).mp hk
  cases hfi : List.findIdx? (fun e => (strKind P w).is k e.2) es.toList with
  | some j =>
    dsimp only
    exact wpAny_pure (wpAny_pure h)
  | none =>
    have c := List.findIdx?_eq_none_iff.mp hfi e he
    rw [q] at c
    cases c
/-- set.add of a text -/
theorem setT_add {k : Str} {u : Tok} {Q : Value → Shared → Prop} (R : TxR P w s.heap a l) (room : l.length + 1 < scanBound)
    (hQ : ∀ h', Heap.SameBut a s.heap h' → TxR P w h' a (if k ∈ l then l else k :: l) → Q .none { s with heap := h', toks := s.toks + 1 }) :
    wpAny (model P w) A (call (.builtin "set.add") [.ref a, .str k u]) Q E s := by
  refine wpAny_call_entry F.slot_set_add R.setOf.typeIs F.entry_set_add ?_ (F.args_set_add_2 _ _)
  unfold Builtin.«set.add» Builtin.Frozenset.oneOther
  simp only [List.isEmpty_nil, bind_assoc]
  unfold Builtin.Frozenset.addrOf setAdd
  refine wpAny_bind (wpAny_pure ?_)
  try dsimp only
  refine wpAny_bind (wpAny_pure ?_)
  try dsimp only
  refine wpAny_bind (wpAny_holding (wpAny_bind ((strKind P w).pyHash (is_str k u) ?_)))
  obtain ⟨D, e, F, nd, hb, r, ld⟩ := R
  have fin : ∀ (h' : Heap), Heap.SameBut a s.heap h' → TxR P w h' a (if k ∈ l then l else k :: l) → wpAny (model P w) A.in1 (ret Value.none) (fun v s' => ∃ z, v = .done (.ret z) ∧ Q z s') E { s with heap := h', toks := s.toks + 1 } := fun h' sb t => wpAny_pure ⟨_, rfl, hQ h' sb t⟩
  by_cases hk : k ∈ l
  · refine had_x (s := { s with toks := s.toks + 1 }) e F hk hb ?_
    exact fin s.heap (Heap.SameBut.refl a s.heap) (by rw [if_pos hk]; exact ⟨D, e, F, nd, hb, r, ld⟩)
  · refine add_x (s := { s with toks := s.toks + 1 }) e F hk room ?_
    refine fin _ (Heap.SameBut.update s.heap a _) ?_
    rw [if_neg hk]
    exact ⟨_, get_upd _ e rfl, add_ok u F, List.nodup_cons.mpr ⟨hk, nd⟩, room, ris_add _ _ r, ld.imp id fun z => by rw [led_add]; exact z⟩
end
/-- a list that has all of l, and no more places than l, is an arrangement of l -/
theorem perm_of_all {α : Type} [DecidableEq α] : ∀ {l ks : List α}, l.Nodup → ks.length = l.length → (∀ x ∈ l, x ∈ ks) → ks.Perm l
  | [], ks, _, hl, _ => by
    have e : ks = [] := List.length_eq_zero_iff.mp hl
    rw [e]
  | x :: l, ks, nd, hl, ha => by
    have hx : x ∈ ks := ha x List.mem_cons_self
    have p := List.perm_cons_erase hx
    have h1 : (ks.erase x).length = l.length := by
      have := p.length_eq
      rw [List.length_cons] at this hl
      omega
    have h2 : ∀ y ∈ l, y ∈ ks.erase x := fun y hy => by
      have ne : y ≠ x := fun z => (List.nodup_cons.mp nd).1 (z ▸ hy)
      exact (List.mem_erase_of_ne ne).mpr (ha y (List.mem_cons_of_mem _ hy))
    exact p.trans (List.Perm.cons x (perm_of_all (List.nodup_cons.mp nd).2 h1 h2))
def textOf : Value → Str
  | .str x _ => x
  | _ => ⟨#[]⟩
theorem strs_of : ∀ (vs : List Value), (∀ v ∈ vs, ∃ x t, v = Value.str x t) → StrsAre vs (vs.map textOf)
  | [], _ => .nil
  | v :: vs, h => by
    obtain ⟨x, t, rfl⟩ := h v List.mem_cons_self
    exact .cons x t (strs_of vs fun u hu => h u (List.mem_cons_of_mem _ hu))
section
variable {X : Cx}
theorem setT_get {pins : List (Addr × Obj)} {σ : St} {H : Hp} {s : Shared} {a : Addr} {l : List Str} (I : Inv X pins σ H s) (ha : H a = some (SetT X.prog X.w a l)) : TxR X.prog X.w s.heap a l := (I.hok a _ ha).1
/-- set() -/
def rSet0T (P : Program) (w : World) : List V → Hp → VK → Prop := fun xs H Q => xs = [] ∧ ∀ p, H p = none → Q (.ref p) (upd H p (SetT P w p []))
theorem fresh_T {P : Program} {w : World} {h : Heap} : TxR P w (h.push { cls := .type "set", dict := none, data := .set #[] 0 (.fresh 0 0 (!w.params.followText "set-order")) }) h.objs.size [] := by
  refine ⟨(#[], 0, .fresh 0 0 (!w.params.followText "set-order")), Heap.get?_push_size _ rfl, .nil rfl, List.nodup_nil, by decide, List.Pairwise.nil, ?_⟩
  show _ ∨ (!w.params.followText "set-order") = true
  cases w.params.followText "set-order"
  · exact .inr rfl
  · exact .inl rfl
theorem cr_set0T : CallR X (.type "set") (rSet0T X.prog X.w) := by
  intro pins s σ H xs us Q I r h
  obtain ⟨rfl, q⟩ := h
  cases r
  exact setR_new fun _ => ⟨.ref _, upd H s.heap.objs.size (SetT X.prog X.w s.heap.objs.size []), I.laid (t' := s.toks) (fun b u e => Heap.get?_push_of_some _ e) (Nat.le_refl _) (setT_new fresh_T), rfl, q _ (I.hok.fresh (Nat.le_refl _))⟩
/-- a text is added, whatever runs -/
theorem addT_ok {pins : List (Addr × Obj)} {σ : St} {H : Hp} {s : Shared} {a : Addr} {l : List Str} {k : Str} {u : Tok} {A : Around} {E : Value → Shared → Prop} {Q : Value → Shared → Prop} (I : Inv X pins σ H s) (ha : H a = some (SetT X.prog X.w a l)) (room : l.length + 1 < scanBound)
    (h : ∀ s', Inv X pins σ (upd H a (SetT X.prog X.w a (if k ∈ l then l else k :: l))) s' → Q .none s') : wpAny (model X.prog X.w) A (call (.builtin "set.add") [.ref a, .str k u]) Q E s := by
  refine setT_add (setT_get I ha) room fun h' sb t => h _ ?_
  have he : ∃ o, h'.get? a = some o := by
    obtain ⟨D, e, _⟩ := id t
    exact ⟨_, e⟩
  exact I.write (x := a) (e := a) (t' := s.toks + 1) (by rw [ha]; trivial) (.inl rfl) (fun b o hb ho => (sb.2 b hb).trans ho) he (setT_new t)
/-- x in found, x not in found -/
def rSInT (P : Program) (w : World) (neg : Bool) : V → V → Hp → VK → Prop := fun x y H Q => ∃ (k : Str) (a : Addr) (l : List Str), x = .str k ∧ y = V.ref a ∧ H a = some (SetT P w a l) ∧ Q (.bl (if neg then !decide (k ∈ l) else decide (k ∈ l))) H
theorem or_sinT : OpR X (compareOp .In) (rSInT X.prog X.w false) := by
  intro pins s σ H x y v u Q I rx ry h
  obtain ⟨k, a, l, rfl, rfl, ha, q⟩ := h
  obtain ⟨t, rfl⟩ := rx
  cases ry
  exact wpAny_inSet_of (is_str k t) rfl (setT_get I ha).setOf ⟨.bl (decide (k ∈ l)), H, I.tok _, rfl, q⟩
theorem or_snotinT : OpR X (compareOp .NotIn) (rSInT X.prog X.w true) := by
  intro pins s σ H x y v u Q I rx ry h
  obtain ⟨k, a, l, rfl, rfl, ha, q⟩ := h
  obtain ⟨t, rfl⟩ := rx
  cases ry
  exact wpAny_notInSet_of (is_str k t) rfl (setT_get I ha).setOf ⟨.bl (!decide (k ∈ l)), H, I.tok _, rfl, q⟩
/-- sorted(found) -/
def rSortT (P : Program) (w : World) : List V → Hp → VK → Prop := fun vs H Q => ∃ (a : Addr) (l : List Str), vs = [V.ref a] ∧ H a = some (SetT P w a l) ∧ l.length < 64 ∧
  ∀ (ys : List Str) (p : Addr), ys.Perm l → sortedS ys = true → H p = none → Q (.ref p) (upd H p (.lst (ys.map V.str)))
theorem cr_sortT (hc : X.calm = true) : CallR X (.builtin "sorted") (rSortT X.prog X.w) := by
  intro pins s σ H xs us Q I r h
  obtain ⟨a, l, rfl, ha, h64, q⟩ := h
  obtain ⟨u, rfl, ru⟩ := vals1 r
  cases ru
  obtain ⟨⟨es, ep, t⟩, e, F, nd, hb, rs, ld⟩ := setT_get I ha
  have sz : es.size = l.length := F.sz
  have el : ElemsOf (strKind X.prog X.w) es.toList := F.el
  refine Calls.call_function_entry kind_sorted plain_sorted entry_sorted (args_sorted1 _) ?_
  unfold Builtin.«sorted»
  refine wpAny_bind (m := checkCount "sorted" 1 1 _) (wpAny_pure ?_)
  refine wpAny_bind (collect_set (A := X.A.in1) (I.ok.hd hc) ⟨_, e, rfl, rfl⟩ F.fit (by rw [sz]; exact hb) rs ld fun s1 vs k1 hz g1 o1 pm => ?_)
  have isT : ∀ v ∈ vs, ∃ x t, v = Value.str x t := fun v hv => by
    obtain ⟨en, he, ev⟩ := List.mem_map.mp (pm.mem_iff.mp hv)
    obtain ⟨⟨k, hk, _⟩, _⟩ := el en he
    obtain ⟨t, et⟩ := Value.isStrOf_shape (x := k) (v := en.2) hk
    exact ⟨k, t, by rw [← ev]; exact et⟩
  have hS : StrsAre vs (vs.map textOf) := strs_of vs isT
  have len : (vs.map textOf).length = l.length := by rw [List.length_map, pm.length_eq, List.length_map, Array.length_toList]; exact sz
  have pl : (vs.map textOf).Perm l := perm_of_all nd len fun k hk => by
    obtain ⟨en, he, hi⟩ := (F.mem k).mp hk
    obtain ⟨t, et⟩ := Value.isStrOf_shape (x := k) (v := en.2) hi
    refine List.mem_map.mpr ⟨en.2, pm.mem_iff.mpr (List.mem_map.mpr ⟨en, he, rfl⟩), ?_⟩
    rw [et]
    rfl
  have vl : vs.length = l.length := by rw [List.length_map] at len; exact len
  obtain ⟨h1, g', d', t', o'⟩ := s1
  have J : Inv X pins σ H ⟨h1, g', d', t', o'⟩ := I.call' (ch := []) o1 (Un.kept k1) (I.hok.kept k1) (by rw [g1]; exact I.bare) (fun _ z => nomatch z)
  refine wpAny_bind (wpAny_newList ?_ (by rw [vl, sizeLine_eq]; omega))
  have hoL : (h1.push (seqObj "list" vs.toArray 0)).get? h1.objs.size = some (seqObj "list" vs.toArray 0) := Heap.get?_push_size _ rfl
  show wpAny _ _ _ _ _ (⟨h1.push (seqObj "list" vs.toArray 0), g', d', t', o'⟩ : Shared)
  refine wpAny_bind (wpAny_holding (wpAny_call_entry slot_list_sort ⟨_, hoL, rfl⟩ entry_list_sort
    (list_sort_treeK strKind_oneLt (s := ⟨h1.push (seqObj "list" vs.toArray 0), g', d', t', o'⟩) hoL hS.keysOf (fun v1 v2 rest e => keyKind_strs (by rw [← e]; exact hS)) (by rw [vl]; exact h64) fun st' hp hs => ⟨_, rfl, ?_⟩) (args_list_sort _)))
  obtain ⟨ys, y1, y2, y3⟩ := sorted_out_str hS hp hs
  obtain ⟨c, hcL⟩ := sortedHeap_at (vs := vs) (out := (arrOf st').map (·.2)) hoL
  have ly : (ys.map V.str).length ≤ sizeLine := by
    rw [List.length_map, y2.length_eq, len]
    exact Nat.le_trans (Nat.le_of_lt h64) (by decide)
  refine wpAny_pure ⟨_, rfl, .ref h1.objs.size, upd H h1.objs.size (.lst (ys.map V.str)), J.laid (t' := t') (fun b o eb => ?_) (Nat.le_refl _)
    (show ObjOk X.prog X.w _ _ _ (.lst (ys.map V.str)) from ⟨ly, ((arrOf st').map (·.2)).toList, c, vals_of_strs y1, by rw [Array.toArray_toList]; exact hcL⟩), rfl, q ys _ (y2.trans pl) y3 (J.hok.fresh (Nat.le_refl _))⟩
  have lb : b < h1.objs.size := Heap.lt_size eb
  rw [sortedHeap_old (Nat.ne_of_lt lb) (by rw [size_push']; exact Nat.lt_succ_of_lt lb)]
  exact Heap.get?_push_of_some _ eb
end
end L2.Fu
/-! ## {elt for target in iter if ..}, elt a text -/
namespace L2.Fu
open PySem PySem.Spec PyProof.Rows
section
variable {X : Cx}
def tScT (P : Program) (w : World) (wi : TI) (g : TG) (tt : TT) (te : TE) (vs : List Nat) : TE := fun σ H Q => wi σ H fun J H1 => ∀ D, H1 D = none → ∃ W : Nat → Nat → Hp → Prop, (∃ m, W 0 m (upd H1 D (SetT P w D []))) ∧ ∀ i m H, W i m H →
  (J.stop i H ∧ Q (.ref D) H) ∨ (J.go i H ∧ ∃ Nx : Hp → Prop, (∀ H', Nx H' → ∃ m', m' < m ∧ W (i + 1) m' H') ∧ ∀ x H', J.yld i H x H' → g x (wipe σ vs) H' fun σ2 H2 => wipe σ2 vs = wipe σ vs ∧ tt σ2 H2 fun b H3 =>
    if b = true then te σ2 H3 fun y H4 => ∃ (k : Str) (l : List Str), y = .str k ∧ H4 D = some (SetT P w D l) ∧ l.length + 1 < scanBound ∧ Nx (upd H4 D (SetT P w D (if k ∈ l then l else k :: l))) else Nx H3)
theorem pe_scT {elt tg iter : Expr} {ifs : List Expr} {scope : Scope} {own : List (Str × Nat)} {pos : Pos} {wi : TI} {g : TG} {tt : TT} {te : TE} (hc : X.calm = true) (hN : X.N.Nodup) (hi : PI X tg iter wi) (ok : BlkOk X.N X.env.scope scope own)
    (hg : ∀ (s : Shared) (H : Hp) (C : Addr) (cl : List (Str × Addr)) (fp : List Addr), PG (X.blk s H scope (compEnvC scope cl C X.env) fp) tg g) (ht : ∀ (s : Shared) (H : Hp) (C : Addr) (cl : List (Str × Addr)) (fp : List Addr), PTs (X.blk s H scope (compEnvC scope cl C X.env) fp) ifs tt)
    (he : ∀ (s : Shared) (H : Hp) (C : Addr) (cl : List (Str × Addr)) (fp : List Addr), PE (X.blk s H scope (compEnvC scope cl C X.env) fp) elt te) (hs : ∀ x, foldedSetIterable iter X.env x = pure x := by intro _; rfl) :
    PE X (.SetComp elt [⟨tg, iter, ifs, 0⟩] scope pos) (tScT X.prog X.w wi g tt te (own.map (·.2))) := by
  refine ⟨fun pins s σ H Q I h => ?_⟩
  rw [PpSet.eval_SetComp]
  have cells : ∀ y ∈ scope.names, y.2 = .free → ∃ c, X.env.cells.lookup y.1 = some c := by
    intro y hy e
    exact (ok.free y hy e).elim (fun k => I.ok.has _ (.inl k)) fun k => I.ok.has _ (.inr k)
  refine wpAny_comprehension_free rfl hs (closure_ok cells) ok.kind (fun y hy e => by rw [ok.uniq y hy, e]) (thn (hi.run pins s σ H _ I h) fun xv s1 hx => thn hx fun itv s2 h2 => ?_)
  obtain ⟨it, fp, tn, J, G, rfl, I2, T, st2, f2, q⟩ := h2
  refine PpSet.newSet_ok (newEnv_comp ?_)
  -- the empty set is laid at D, then the block's own frame behind it
  have keep2 : ∀ b o, s2.heap.get? b = some o → (s2.heap.push { cls := .type "set", dict := none, data := .set #[] 0 (.fresh 0 0 (!X.w.params.followText "set-order")) }).get? b = some o := fun b o e => Heap.get?_push_of_some _ e
  have freeD : G s2.heap.objs.size = none := I2.hok.fresh (Nat.le_refl _)
  have I3 := I2.laid (t' := s2.toks) keep2 (Nat.le_refl _) (setT_new (H := upd G s2.heap.objs.size (SetT X.prog X.w s2.heap.objs.size [])) (fresh_T (P := X.prog) (w := X.w) (h := s2.heap)))
  obtain ⟨W, ⟨m0, w0⟩, turn⟩ := q s2.heap.objs.size freeD
  have low : ∀ b ∈ fp, b < s2.heap.objs.size := fun b hb => by
    obtain ⟨o, e, _⟩ := T.obj _ _ st2 b hb
    exact Heap.lt_size e
  have f3 : ∀ b ∈ fp, FpOk X pins (upd G s2.heap.objs.size (SetT X.prog X.w s2.heap.objs.size [])) b := fun b hb => by
    obtain ⟨z, zz⟩ := f2 b hb
    exact ⟨by rw [upd_ne (Nat.ne_of_lt (low b hb))]; exact z, zz⟩
  have st3 := T.keep _ _ _ st2 fun b _ o e => keep2 b o e
  generalize s2.heap.objs.size = D at I3 w0 turn f3 ⊢
  have low3 : ∀ b ∈ fp, b < (s2.heap.push { cls := .type "set", dict := none, data := .set #[] 0 (.fresh 0 0 (!X.w.params.followText "set-order")) }).objs.size := fun b hb => by
    rw [Heap.size_push]
    exact Nat.lt_succ_of_lt (low b hb)
  generalize hs3 : ({ s2 with heap := s2.heap.push { cls := .type "set", dict := none, data := .set #[] 0 (.fresh 0 0 (!X.w.params.followText "set-order")) } } : Shared) = s3 at I3
  have e3 : s3.heap = s2.heap.push { cls := .type "set", dict := none, data := .set #[] 0 (.fresh 0 0 (!X.w.params.followText "set-order")) } := by rw [← hs3]
  rw [← e3] at low3 st3
  generalize upd G D (SetT X.prog X.w D []) = G3 at I3 w0 f3
  have I4 := block_start I3 ok hN fun b hb => ⟨f3 b hb, low3 b hb⟩
  show codeAny _ _ (.compStart _ 0 (.ref it) (.ref D) (compEnvC scope (cellsFrom (s3.heap.objs.size + 1) scope.names (cloFrom X.env.cells scope.names [])) s3.heap.objs.size X.env)) (compPost (model X.prog X.w) X.A X.xe none _ (.ref D) s3.heap.objs.size) { s3 with heap := pushCells (s3.heap.push { cls := .type "dict", data := .dict #[] }) scope.names }
  have pg := hg s3 G3 s3.heap.objs.size (cellsFrom (s3.heap.objs.size + 1) scope.names (cloFrom X.env.cells scope.names [])) fp
  have pt := ht s3 G3 s3.heap.objs.size (cellsFrom (s3.heap.objs.size + 1) scope.names (cloFrom X.env.cells scope.names [])) fp
  have pe := he s3 G3 s3.heap.objs.size (cellsFrom (s3.heap.objs.size + 1) scope.names (cloFrom X.env.cells scope.names [])) fp
  have hL : (compEnvC scope (cellsFrom (s3.heap.objs.size + 1) scope.names (cloFrom X.env.cells scope.names [])) s3.heap.objs.size X.env).locals = s3.heap.objs.size := rfl
  generalize compEnvC scope (cellsFrom (s3.heap.objs.size + 1) scope.names (cloFrom X.env.cells scope.names [])) s3.heap.objs.size X.env = ce at I4 pg pt pe hL ⊢
  have st4 : tn 0 ({ s3 with heap := pushCells (s3.heap.push { cls := .type "dict", data := .dict #[] }) scope.names } : Shared).heap := T.keep _ _ _ st3 fun b _ o e => pushCells_keeps _ _ _ _ (Heap.get?_push_of_some _ e)
  generalize ({ s3 with heap := pushCells (s3.heap.push { cls := .type "dict", data := .dict #[] }) scope.names } : Shared) = s4 at I4 st4 ⊢
  have own_fp : ∀ {σ' : St} {H' : Hp} {s' : Shared}, Inv (X.blk s3 G3 scope ce fp) [] σ' H' s' → (∀ b ∈ fp, H' b = none) → ∀ b ∈ fp, FpOk (X.blk s3 G3 scope ce fp) [] H' b := by
    intro σ' H' s' I' hn b hb
    exact ⟨hn b hb, (I'.ok.exf b hb).1, I'.ok.exfs b hb, .inl hb, fun x c e => (I'.ok.exf b hb).2 x c e, fun p hp => nomatch hp⟩
  have loop : codeAny (model X.prog X.w) X.A (.compLoop (.SetComp elt [⟨tg, iter, ifs, 0⟩] scope pos) 0 (.ref it) (.ref D) ce) (compPost (model X.prog X.w) X.A X.xe none (EP X pins σ Q) (.ref D) s3.heap.objs.size) s4 := by
    refine PpSet.compLoopS_any (fun n t => ∃ (i : Nat) (Hi : Hp), Inv (X.blk s3 G3 scope ce fp) [] (wipe σ (own.map (·.2))) Hi t ∧ tn i t.heap ∧ (∀ b ∈ fp, Hi b = none) ∧ W i n Hi) ?_ m0 ⟨0, G3, I4, st4, fun b hb => (f3 b hb).1, w0⟩
    rintro n t ⟨i, Hi, It, stt, nt, wt⟩
    rcases turn i n Hi wt with ⟨stop, done⟩ | ⟨go, Nx, hNx, step⟩
    · refine thnF (T.done (X.blk s3 G3 scope ce fp) rfl rfl rfl hc i [] t _ Hi (fun _ _ => False) It (own_fp It nt) stt stop) fun r t6 hr => ?_
      obtain ⟨rfl, I6⟩ := hr
      have back : Inv X pins σ Hi t6 := I3.call' (ch := fp) I6.os I6.base I6.hok I6.bare fun b hb => by
        obtain ⟨_, z1, _, z3, z4, z5⟩ := f3 b hb
        exact ⟨z3, z1, z4, z5⟩
      obtain ⟨m, ns, _⟩ := I6.loc
      have ns : t6.heap.Ns ce.locals m := ns
      have free : Hi ce.locals = none := I6.free
      rw [hL] at ns free
      obtain ⟨u0, u1, u2, u3, u4, u5⟩ := I3.fpOk (Nat.le_refl _) free
      exact ⟨m, ns, fun h'' sb => ⟨.ref D, Hi, back.turned (t' := t6.toks) (fun b o hb e => (sb.2 b hb).trans e) u0 u1 u3 u4 u5, rfl, done⟩⟩
    · refine thnF (T.item (X.blk s3 G3 scope ce fp) rfl rfl rfl hc i [] t _ Hi (fun _ _ => False) It (own_fp It nt) stt go) fun r t6 hr => ?_
      obtain ⟨u, rfl, h6⟩ := hr
      refine thnF h6 fun _ t7 hr => ?_
      obtain ⟨x, H7, I7, r7, y7, st7, n7⟩ := hr
      have held := I7.pinned (own_fp I7 n7) (T.obj _ _ st7)
      -- a turn's end: what the iterator leans on stands
      have fin : ∀ (t' : Shared) (σ' : St) (H' : Hp), Inv (X.blk s3 G3 scope ce fp) ([] ++ pinsAt fp t7.heap) σ' H' t' → wipe σ' (own.map (·.2)) = wipe σ (own.map (·.2)) → Nx H' →
          ∃ m, m < n ∧ ∃ (i : Nat) (Hi : Hp), Inv (X.blk s3 G3 scope ce fp) [] (wipe σ (own.map (·.2))) Hi t' ∧ tn i t'.heap ∧ (∀ b ∈ fp, Hi b = none) ∧ W i m Hi := by
        intro t' σ' H' I' hw nx
        obtain ⟨m, lt, w'⟩ := hNx H' nx
        have pin : ∀ b ∈ fp, ∀ o, t7.heap.get? b = some o → t'.heap.get? b = some o ∧ H' b = none := by
          intro b hb o e
          have z := I'.pin (b, o) (List.mem_append_right _ (List.mem_append_right _ (mem_pinsAt hb e)))
          exact ⟨z.1, z.2.1⟩
        have ll : (wipe σ (own.map (·.2))).length = σ'.length := by rw [← hw, wipe_length]
        refine ⟨m, lt, i + 1, H', (I'.unpinned (pins := [])).weak ll (fun j v e => ?_), T.keep _ _ _ st7 fun b hb o e => (pin b hb o e).1, fun b hb => ?_, w'⟩
        · rw [← hw] at e
          exact (wipe_some e).1
        · obtain ⟨o, e, _⟩ := T.obj _ _ st7 b hb
          exact (pin b hb o e).2
      refine thnF (pg.run _ t7 _ H7 x u _ held r7 (step x H7 y7)) fun _ t8 hr => ?_
      obtain ⟨σ8, H8, I8, hw8, q8⟩ := hr
      refine thnF (pt.run _ t8 σ8 H8 _ I8 q8) fun b t9 hr => ?_
      obtain ⟨H9, I9, q9⟩ := hr
      match b, q9 with
      | false, q9 => exact fin t9 σ8 H9 I9 hw8 q9
      | true, q9 =>
        refine thnF (pe.run _ t9 σ8 H9 _ I9 q9) fun z t10 hr => ?_
        obtain ⟨yv, H10, I10, r10, k, l, rfl, hD, room, nx⟩ := hr
        obtain ⟨tk, rfl⟩ := r10
        exact addT_ok (X := X.blk s3 G3 scope ce fp) I10 hD room fun t11 I11 => fin t11 σ8 _ I11 hw8 nx
  exact PpSet.codeAny_compStart_set loop (T.self X.A 0 _ _ _ st4 loop)
end
/-- over a list that the block leaves as it is -/
theorem scT_list {P : Program} {w : World} {K : PySem.W.Frag} {a : Addr} {xs : List V} {g : TG} {tt : TT} {te : TE} {vs : List Nat} {σ : St} {H1 : Hp} {D : Addr} {Qd : Hp → Prop} (Pv : Nat → Hp → Prop) (h0 : Pv 0 (upd H1 D (SetT P w D []))) (hl : ∀ i H, Pv i H → SqL K H a xs)
    (hs : ∀ i x H, xs[i]? = some x → Pv i H → g x (wipe σ vs) H fun σ2 H2 => wipe σ2 vs = wipe σ vs ∧ tt σ2 H2 fun b H3 =>
      if b = true then te σ2 H3 fun y H4 => ∃ (k : Str) (l : List Str), y = .str k ∧ H4 D = some (SetT P w D l) ∧ l.length + 1 < scanBound ∧ Pv (i + 1) (upd H4 D (SetT P w D (if k ∈ l then l else k :: l))) else Pv (i + 1) H3) (hd : ∀ H, Pv xs.length H → Qd H) :
    ∃ W : Nat → Nat → Hp → Prop, (∃ m, W 0 m (upd H1 D (SetT P w D []))) ∧ ∀ i m H, W i m H →
      ((Itl K a).stop i H ∧ Qd H) ∨ ((Itl K a).go i H ∧ ∃ Nx : Hp → Prop, (∀ H', Nx H' → ∃ m', m' < m ∧ W (i + 1) m' H') ∧ ∀ x H', (Itl K a).yld i H x H' → g x (wipe σ vs) H' fun σ2 H2 => wipe σ2 vs = wipe σ vs ∧ tt σ2 H2 fun b H3 =>
        if b = true then te σ2 H3 fun y H4 => ∃ (k : Str) (l : List Str), y = .str k ∧ H4 D = some (SetT P w D l) ∧ l.length + 1 < scanBound ∧ Nx (upd H4 D (SetT P w D (if k ∈ l then l else k :: l))) else Nx H3) := by
  refine ⟨fun i m H => m + i = xs.length ∧ Pv i H, ⟨xs.length, rfl, h0⟩, ?_⟩
  rintro i m H ⟨hm, pv⟩
  have q := hl i H pv
  by_cases lt : i < xs.length
  · refine .inr ⟨⟨xs, xs[i], q, List.getElem?_eq_getElem lt⟩, Pv (i + 1), fun H' p' => ⟨m - 1, by omega, by omega, p'⟩, ?_⟩
    rintro x H' ⟨rfl, y⟩
    exact hs i x _ (y xs q) pv
  · obtain rfl : i = xs.length := by omega
    exact .inl ⟨⟨xs, q, Nat.le_refl _⟩, hd H pv⟩
end L2.Fu
/-! ## set(xs), xs a list of texts -/
namespace L2.Fu
open PySem PySem.Spec PyProof.Rows
open PySem.Froz (SD sObj TxOk addTx tailTx add_x add_ok is_str get_upd)
def addL (l : List Str) (k : Str) : List Str := if k ∈ l then l else k :: l
theorem mem_addL {l : List Str} {k x : Str} : x ∈ addL l k ↔ x ∈ l ∨ x = k := by
  unfold addL
  split
  · rename_i h
    exact ⟨.inl, fun z => z.elim id fun e => e ▸ h⟩
  · rw [List.mem_cons]
    exact Or.comm
theorem len_addL (l : List Str) (k : Str) : (addL l k).length ≤ l.length + 1 := by
  unfold addL
  split
  · exact Nat.le_succ _
  · exact Nat.le_refl _
def allL (ts : List Str) : List Str := ts.foldl addL []
theorem allL_snoc (ts : List Str) (k : Str) : allL (ts ++ [k]) = addL (allL ts) k := by
  unfold allL
  rw [List.foldl_append]
  rfl
theorem fold_mem : ∀ (ts l : List Str) (x : Str), x ∈ ts.foldl addL l ↔ x ∈ l ∨ x ∈ ts
  | [], l, x => by simp
  | t :: ts, l, x => by
    rw [List.foldl_cons, fold_mem ts, mem_addL, List.mem_cons]
    exact or_assoc
theorem mem_allL (ts : List Str) (x : Str) : x ∈ allL ts ↔ x ∈ ts := by
  unfold allL
  rw [fold_mem]
  simp
theorem fold_len : ∀ (ts l : List Str), (ts.foldl addL l).length ≤ l.length + ts.length
  | [], l => Nat.le_refl _
  | t :: ts, l => by
    have a := fold_len ts (addL l t)
    have b := len_addL l t
    rw [List.foldl_cons, List.length_cons]
    omega
theorem len_allL (ts : List Str) : (allL ts).length ≤ ts.length := by
  have := fold_len ts []
  simpa [allL] using this
theorem strs_get : ∀ {us : List Value} {xs : List Str} {i : Nat} {v : Value}, StrsAre us xs → us[i]? = some v → ∃ t x, xs[i]? = some x ∧ v = .str x t
  | _, _, _, _, .nil, e => by simp at e
  | _, _, 0, _, .cons y t _, e => by simp at e; exact ⟨t, y, rfl, e.symm⟩
  | _, _, i + 1, v, .cons y t r, e => by
    obtain ⟨t', x, h1, h2⟩ := strs_get (i := i) (v := v) r (by simpa using e)
    exact ⟨t', x, by simpa using h1, h2⟩
section
variable {P : Program} {w : World} {A : Around} {E : Value → Shared → Prop} {s : Shared}
theorem code_newT (v : Value) {Q1 : Value → Shared → Prop}
    (h : Q1 (.ref s.heap.objs.size) { s with heap := s.heap.push { cls := .type "set", dict := none, data := .set #[] 0 (.fresh 0 0 (!w.params.followText "set-order")) } }) :
    codeAny (model P w) A (.call (.builtin "set.__new__") ⟨[.type "set", v], []⟩) (wants Q1 E) s := by
  refine codeAny_of_tree ?_
  show wpAny _ A.in1 (checkBuiltinCall "set.__new__" ⟨[.type "set", v], []⟩ >>= fun _ => again (.builtin "set.__new__" ⟨[.type "set", v], []⟩)) _ _ s
  refine wpAny_bind (wpAny_of_eq (PySem.F.newCall_set_1 v) (wpAny_pure ⟨plainId_quiet PySem.F.plain_set_new _, codeAny_builtin PySem.F.entry_set_new ?_⟩))
  rw [Around.under_plainId PySem.F.plain_set_new _]
  unfold Builtin.«set.__new__» Builtin.Frozenset.newClass
  have hsub := sub_set_self
  obtain ⟨hp, g, d, tk, os⟩ := s
  dsimp only
  wp_walk
  refine wpAny_askSetting (wpAny_pure ?_)
  dsimp only
  simp only [newObj]
  exact wpAny_bind (wpAny_alloc (wpAny_pure (wpAny_pure h)))
/-- the texts of what is walked are added one by one -/
theorem loopT {R : Result → Shared → Prop} {I : Addr} {fp wr : List Addr} {G : Array GenState → Array GenState → Prop} {ts : List Str} {Pv : Nat → Value → Prop} {St : Nat → Shared → Prop} (W : WalksS P w A.in1 I fp wr G ts.length Pv St) (S : Addr) (hSf : S ∉ fp)
    (hv : ∀ i v, Pv i v → ∃ t x, ts[i]? = some x ∧ v = .str x t) (hb : ts.length + 1 < scanBound) :
    ∀ (k i : Nat) (s : Shared), ts.length - i = k → i ≤ ts.length → St i s → TxR P w s.heap S (allL (ts.take i)) →
      (∀ s', Moved (S :: wr) G s s' → TxR P w s'.heap S (allL ts) → R (.ok (.ret .none)) s') → codeAny (model P w) A (.builtin "set.update.loop" ⟨[.ref S, .ref I], []⟩) R s := by
  have off : S ∉ wr := fun h => hSf (W.sub _ h)
  have sub : ∀ b ∈ wr, b ∈ S :: wr := fun b hb => List.mem_cons_of_mem _ hb
  intro k
  induction k with
  | zero =>
    intro i s hk hi st R0 done
    obtain rfl : i = ts.length := by omega
    rw [List.take_length] at R0
    refine codeAny_builtin PyProof.Rows.F.entry_set_update_loop ?_
    rw [Around.under_plainId PyProof.Rows.F.plain_set_update_loop _]
    show wpAny _ A.in1 (pyNext (.ref I) >>= _) _ _ s
    refine wpAny_bind (W.done s _ _ st fun s' hm => ?_)
    show wpAny _ A.in1 (ret Value.none) _ _ s'
    exact wpAny_pure (done s' (hm.mono sub) (R0.at fun o e => hm.heap S _ off e))
  | succ k ih =>
    intro i s hk hi st R0 done
    have lt : i < ts.length := by omega
    refine codeAny_builtin PyProof.Rows.F.entry_set_update_loop ?_
    rw [Around.under_plainId PyProof.Rows.F.plain_set_update_loop _]
    show wpAny _ A.in1 (pyNext (.ref I) >>= _) _ _ s
    refine wpAny_bind (W.item i s _ _ lt st fun v s' hP st' hm => ?_)
    obtain ⟨t, x, hx, rfl⟩ := hv i v hP
    have R1 : TxR P w s'.heap S (allL (ts.take i)) := R0.at fun o e => hm.heap S _ off e
    have l1 := len_allL (ts.take i)
    rw [List.length_take] at l1
    have tk1 : ts.take (i + 1) = ts.take i ++ [x] := by rw [List.take_add_one, hx]; rfl
    show wpAny _ A.in1 (holding [Value.str x t] (setAdd S (.str x t)) >>= _) _ _ s'
    refine wpAny_bind (wpAny_holding ?_)
    unfold setAdd
    refine wpAny_holding (wpAny_bind ((strKind P w).pyHash (is_str x t) ?_))
    obtain ⟨D, e, F, nd, hb0, r, ld⟩ := R1
    have goOn : ∀ (h' : Heap), Heap.SameBut S s'.heap h' → TxR P w h' S (addL (allL (ts.take i)) x) → codeAny (model P w) A (.builtin "set.update.loop" ⟨[.ref S, .ref I], []⟩) R { s' with heap := h', toks := s'.toks + 1 } := by
      intro h' sb R2
      rw [← allL_snoc, ← tk1] at R2
      refine ih (i + 1) _ (by omega) lt (W.frame _ s' _ _ st' (Nat.le_succ _) fun b hb o e => ?_) R2 fun s2 hm2 R3 => ?_
      · rw [sb.2 b (fun z : b = S => hSf (by rw [← z]; exact hb))]
        exact e
      · refine done s2 (Moved.trans W.gtrans ((hm.mono sub).then_heap (Nat.le_succ _) fun b o hb e => ?_) hm2) R3
        rw [sb.2 b (fun z : b = S => hb (by rw [z]; exact List.mem_cons_self))]
        exact e
    by_cases hk : x ∈ allL (ts.take i)
    · refine had_x (s := { s' with toks := s'.toks + 1 }) e F hk hb0 ?_
      exact wpAny_pure ⟨plainId_quiet PyProof.Rows.F.plain_set_update_loop _, goOn _ (Heap.SameBut.refl S s'.heap) (by unfold addL; rw [if_pos hk]; exact ⟨D, e, F, nd, hb0, r, ld⟩)⟩
    · have room : (allL (ts.take i)).length + 1 < scanBound := by omega
      refine add_x (s := { s' with toks := s'.toks + 1 }) e F hk room ?_
      refine wpAny_pure ⟨plainId_quiet PyProof.Rows.F.plain_set_update_loop _, goOn _ (Heap.SameBut.update s'.heap S _) ?_⟩
      unfold addL
      rw [if_neg hk]
      exact ⟨_, get_upd _ e rfl, add_ok t F, List.nodup_cons.mpr ⟨hk, nd⟩, room, ris_add _ _ r, ld.imp id fun z => by rw [led_add]; exact z⟩
/-- set(xs) at the library's level -/
theorem set_of_list {l : Addr} {items : Array Value} {ts : List Str} {Q : Value → Shared → Prop} (hh : A.handled = none) (hl : s.heap.IsList l items) (hi : StrsAre items.toList ts) (hb : ts.length + 1 < scanBound)
    (h : ∀ (h' : Heap) (tk : Nat), TxR P w h' s.heap.objs.size (allL ts) → (∀ b o, s.heap.get? b = some o → h'.get? b = some o) → Q (.ref s.heap.objs.size) { s with heap := h', toks := tk }) :
    wpAny (model P w) A (call (.type "set") [.ref l]) Q E s := by
  obtain ⟨c, tl, hmro⟩ := PySem.F.called_set.mro
  have hmade := PySem.F.called_set.made
  have hsub := PySem.F.called_set.sub
  refine wpAny_call (codeAny_of_tree ?_)
  show wpAny _ _ (callAny (.type "set") _) _ _ _
  refine wpAny_pure ⟨Code.quiet_builtin _ (by decide +kernel), codeAny_builtin PySem.F.entry_type_call ?_⟩
  rw [Around.under_plain (weight_type_call_type "set" [.ref l] []) rfl]
  have h1 := PySem.F.called_set.notType
  have h2 := PySem.F.called_set.canCreate
  have hct := PySem.F.typeCall_set_1 (.ref l)
  repeat (any_goals (first | assumption | wp_step))
  refine codeAny_mono (code_newT (.ref l) (E := E) (Q1 := fun obj t => obj = .ref s.heap.objs.size ∧ t = { s with heap := s.heap.push { cls := .type "set", dict := none, data := .set #[] 0 (.fresh 0 0 (!w.params.followText "set-order")) } }) ⟨rfl, rfl⟩) fun r t hr => ?_
  match r, hr with
  | .error e, hr => exact hr
  | .ok .next, hr => exact hr.elim
  | .ok .brk, hr => exact hr.elim
  | .ok .cont, hr => exact hr.elim
  | .ok (.ret obj), hr =>
    obtain ⟨rfl, rfl⟩ := hr
    generalize hz : s.heap.push { cls := .type "set", dict := none, data := .set #[] 0 (.fresh 0 0 (!w.params.followText "set-order")) } = hS
    have new : TxR P w hS s.heap.objs.size [] := by rw [← hz]; exact fresh_T
    have keep : ∀ b o, s.heap.get? b = some o → hS.get? b = some o := fun b o e => by rw [← hz]; exact Heap.get?_push_of_some _ e
    have size : hS.objs.size = s.heap.objs.size + 1 := by rw [← hz, Heap.size_push]
    have hT : Shared.TypeIs { s with heap := hS } (.ref s.heap.objs.size) "set" := new.setOf.typeIs
    have hli := PySem.F.called_set.init.lookup
    have hbi := PySem.F.called_set.init.bind (.ref s.heap.objs.size)
    repeat (any_goals (first | assumption | wp_step))
    refine codeAny_mono (codeAny_call_builtin (R := wants (fun r s2 => r = .none ∧ ∃ h' tk, s2 = { s with heap := h', toks := tk } ∧ TxR P w h' s.heap.objs.size (allL ts) ∧ (∀ b o, s.heap.get? b = some o → h'.get? b = some o)) E)
      PySem.F.called_set.init.plain PySem.F.entry_set_init (check_set_init_1 hT ?_)) fun r2 s2 hr2 => ?_
    · obtain ⟨ol, hol, hcl, nl, hdl⟩ := id hl
      obtain ⟨ocls, odict, odata, oslots⟩ := ol
      simp only at hcl hdl
      subst hcl
      subst hdl
      have hol2 : hS.get? l = some { cls := .type "list", dict := odict, data := .seq items nl, slots := oslots } := keep _ _ hol
      have hsls := PySem.F.sub_list_set
      have hslf := PySem.F.sub_list_frozenset
      have hne : (Value.type "list" == Value.type "dict") = false := by decide
      have hl2 : hS.IsList l items := ⟨_, hol2, rfl, nl, rfl⟩
      obtain ⟨D0, e0, F0, _⟩ := id new
      have hS0 : hS.get? s.heap.objs.size = some { cls := .type "set", dict := none, data := .set #[] 0 (.fresh 0 0 (!w.params.followText "set-order")) } := by rw [← hz]; exact Heap.get?_push_size _ rfl
      unfold Builtin.«set.__init__» noKeywords Builtin.Frozenset.updateFrom
      generalize hPI : pyIter = PI
      wp_walk
      subst hPI
      refine wpAny_pyIter_list hl2 (wpAny_bind (wpAny_runValue ?_))
      have low : l < s.heap.objs.size := Heap.lt_size hol
      have nI : l ≠ hS.objs.size := by rw [size]; exact Nat.ne_of_lt (Nat.lt_succ_of_lt low)
      have nf : s.heap.objs.size ∉ [hS.objs.size, l] := by
        rw [size]
        simp only [List.mem_cons, List.not_mem_nil, or_false, not_or]
        exact ⟨Nat.ne_of_lt (Nat.lt_succ_self _), Nat.ne_of_gt low⟩
      have lt : items.size = ts.length := by rw [← Array.length_toList]; exact hi.length
      have walk := (Walks.list (prog := P) (w := w) (A := A.in1.in1.in1) (by simp [hh]) hS.objs.size l nI items).toS
      rw [lt] at walk
      refine loopT walk s.heap.objs.size nf (fun i v hv => ?_) hb (ts.length - 0) 0 _ rfl (Nat.zero_le _) ⟨⟨_, Heap.get?_push_size _ rfl, rfl, rfl⟩, hl2.push _⟩ (new.at fun o e => Heap.get?_push_of_some _ e) fun s3 hm R3 => ?_
      · have hv' : items.toList[i]? = some v := by rw [Array.getElem?_toList]; exact hv
        exact strs_get hi hv'
      · obtain ⟨h3, g3, d3, tk3, os3⟩ := s3
        have eg : g3 = s.gens := hm.gens
        have ed : d3 = s.drawn := hm.drawn
        have eo : os3 = s.os := hm.os
        subst eg
        subst ed
        subst eo
        show wpAny _ _ _ _ _ _
        refine wpAny_pure ?_
        show wpAny _ _ (ret Value.none) _ _ _
        refine wpAny_pure ⟨rfl, h3, tk3, rfl, R3, fun b o e => ?_⟩
        have lb : b < s.heap.objs.size := Heap.lt_size e
        refine hm.heap b o ?_ (Heap.get?_push_of_some _ (keep b o e))
        simp only [List.mem_cons, List.not_mem_nil, or_false, not_or]
        rw [size]
        exact ⟨Nat.ne_of_lt lb, Nat.ne_of_lt (Nat.lt_succ_of_lt lb)⟩
    · match r2, hr2 with
      | .error e, hr2 => exact hr2
      | .ok .next, hr2 => exact hr2.elim
      | .ok .brk, hr2 => exact hr2.elim
      | .ok .cont, hr2 => exact hr2.elim
      | .ok (.ret r), hr2 =>
        obtain ⟨rfl, h', tk, rfl, R3, k3⟩ := hr2
        repeat (any_goals (first | assumption | wp_step))
        exact h _ _ R3 k3
end
section
variable {X : Cx}
def rSetOfL (K : PySem.W.Frag) (P : Program) (w : World) : List V → Hp → VK → Prop := fun xs H Q => ∃ (a : Addr) (ts : List Str), xs = [.ref a] ∧ SqL K H a (ts.map V.str) ∧ ts.length + 1 < scanBound ∧ ∀ p, H p = none → Q (.ref p) (upd H p (SetT P w p (allL ts)))
theorem cr_setOfL (hc : X.calm = true) : CallR X (.type "set") (rSetOfL X.K X.prog X.w) := by
  intro pins s σ H xs us Q I r h
  obtain ⟨a, ts, rfl, hs, hb, q⟩ := h
  obtain ⟨u, rfl, ru⟩ := vals1 r
  cases ru
  obtain ⟨its, rv, hl, _⟩ := I.list hs
  refine set_of_list (I.ok.hd hc) hl.isList (by simpa using rv.strs) hb fun h' tk R k => ?_
  exact ⟨.ref _, upd H s.heap.objs.size (SetT X.prog X.w s.heap.objs.size (allL ts)), I.laid (t' := tk) k (Nat.le_refl _) (setT_new R), rfl, q _ (I.hok.fresh (Nat.le_refl _))⟩
end
end L2.Fu
/-! ## xs.extend(a tuple) -/
namespace L2.Fu
open PySem PySem.Spec PyProof.Rows
theorem meets_extT (l : Addr) (items : Array Value) (n : Nat) (b : Addr) (dd : Option Addr) (items2 : Array Value) (n2 : Nat) (sl : Array (Option Value)) (c0 : ¬(!items.isEmpty && Builtin.List.listTooLong (items.size + items2.size)) = true) (c1 : items.size ≤ sizeLine) (c2 : items.size + items2.size ≤ sizeLine + 1) :
    Meets (Builtin.«list.extend» ⟨[.ref l, .ref b], []⟩) (fun _ R s => s.heap.get? l = some { cls := .type "list", dict := none, data := .seq items n, slots := #[] } ∧ s.heap.get? b = some ⟨.type "tuple", dd, .seq items2 n2, sl⟩ ∧
      R (.ok (.ret Value.none)) { s with heap := s.heap.update l (Obj.mapSeq fun x => x ++ items2), toks := s.toks }) :=
  .of_wp fun prog w A R s h => by
    obtain ⟨hp, g, d, tk, os⟩ := s
    obtain ⟨hl, hb, h⟩ := h
    have f2 := sub_tuple_tuple
    have f3 := sub_list_list
    have f4 := sub_tuple_list
    have f5 := sub_list_tuple
    have big : (items ++ items2).size ≤ sizeLine + 1 := by rw [Array.size_append]; exact c2
    wp_walk using (wpAny_updateSeq hl rfl (hz := c1) (_hz' := big)), wpAny_loadPart' hl, wpAny_loadPart' hb
    exact ⟨_, rfl, h⟩
def rExtT (K : PySem.W.Frag) : V → List V → Hp → VK → Prop := fun x vs H Q => ∃ (l b : Addr) (xs zs : List V), x = .ref l ∧ vs = [.ref b] ∧ H l = some (.lst xs) ∧ SqT K H b zs ∧ xs.length + zs.length ≤ sizeLine ∧ Q .non (upd H l (.lst (xs ++ zs)))
theorem mt_extT {X : Cx} : MtM X "list.extend" (rExtT X.K) := by
  intro pins s σ H x vs v us Q I rx rv h
  obtain ⟨l, b, xs, zs, rfl, rfl, hH, hB, hz, q⟩ := h
  cases rx
  obtain ⟨u, rfl, ru⟩ := vals1 rv
  cases ru
  obtain ⟨z, its, n, r, el, e⟩ := I.lstM hH
  obtain ⟨its2, r2, ⟨o, e2, oc, n2, od⟩, z2⟩ := I.tuple hB
  obtain ⟨c, dd, dt, sl⟩ := o
  dsimp only at oc od
  subst oc od
  have l2 := r2.length
  have few : its.toArray.size + its2.toArray.size ≤ sizeLine := by rw [List.size_toArray, List.size_toArray]; omega
  have nl : ¬ (!its.toArray.isEmpty && Builtin.List.listTooLong (its.toArray.size + its2.toArray.size)) = true := by
    rw [notLongL few, Bool.and_false]
    exact Bool.false_ne_true
  refine call_meets F.slot_list_extend ⟨_, e, rfl⟩ F.entry_list_extend (F.args_list_extend_2 _ _) (meets_extT l its.toArray n b dd its2.toArray n2 sl nl (by rw [List.size_toArray]; omega) (by omega)) ⟨e, e2, ?_⟩
  refine ⟨.non, _, I.lset (its' := its ++ its2) hH e (by simp) (r.append r2) ?_, rfl, q⟩
  rw [List.length_append]
  exact hz
end L2.Fu
/-! ## set(t), t a tuple of texts -/
namespace L2.Fu
open PySem PySem.Spec PyProof.Rows
section
variable {P : Program} {w : World} {A : Around} {E : Value → Shared → Prop} {s : Shared}

theorem set_of_tup {l : Addr} {items : Array Value} {ts : List Str} {Q : Value → Shared → Prop} (hh : A.handled = none) (hl : s.heap.IsTuple l items) (hi : StrsAre items.toList ts) (hb : ts.length + 1 < scanBound)
    (h : ∀ (h' : Heap) (tk : Nat), TxR P w h' s.heap.objs.size (allL ts) → (∀ b o, s.heap.get? b = some o → h'.get? b = some o) → Q (.ref s.heap.objs.size) { s with heap := h', toks := tk }) :
    wpAny (model P w) A (call (.type "set") [.ref l]) Q E s := by
  obtain ⟨c, tl, hmro⟩ := PySem.F.called_set.mro
  have hmade := PySem.F.called_set.made
  have hsub := PySem.F.called_set.sub
  refine wpAny_call (codeAny_of_tree ?_)
  show wpAny _ _ (callAny (.type "set") _) _ _ _
  refine wpAny_pure ⟨Code.quiet_builtin _ (by decide +kernel), codeAny_builtin PySem.F.entry_type_call ?_⟩
  rw [Around.under_plain (weight_type_call_type "set" [.ref l] []) rfl]
  have h1 := PySem.F.called_set.notType
  have h2 := PySem.F.called_set.canCreate
  have hct := PySem.F.typeCall_set_1 (.ref l)
  repeat (any_goals (first | assumption | wp_step))
  refine codeAny_mono (code_newT (.ref l) (E := E) (Q1 := fun obj t => obj = .ref s.heap.objs.size ∧ t = { s with heap := s.heap.push { cls := .type "set", dict := none, data := .set #[] 0 (.fresh 0 0 (!w.params.followText "set-order")) } }) ⟨rfl, rfl⟩) fun r t hr => ?_
  match r, hr with
  | .error e, hr => exact hr
  | .ok .next, hr => exact hr.elim
  | .ok .brk, hr => exact hr.elim
  | .ok .cont, hr => exact hr.elim
  | .ok (.ret obj), hr =>
    obtain ⟨rfl, rfl⟩ := hr
    generalize hz : s.heap.push { cls := .type "set", dict := none, data := .set #[] 0 (.fresh 0 0 (!w.params.followText "set-order")) } = hS
    have new : TxR P w hS s.heap.objs.size [] := by rw [← hz]; exact fresh_T
    have keep : ∀ b o, s.heap.get? b = some o → hS.get? b = some o := fun b o e => by rw [← hz]; exact Heap.get?_push_of_some _ e
    have size : hS.objs.size = s.heap.objs.size + 1 := by rw [← hz, Heap.size_push]
    have hT : Shared.TypeIs { s with heap := hS } (.ref s.heap.objs.size) "set" := new.setOf.typeIs
    have hli := PySem.F.called_set.init.lookup
    have hbi := PySem.F.called_set.init.bind (.ref s.heap.objs.size)
    repeat (any_goals (first | assumption | wp_step))
    refine codeAny_mono (codeAny_call_builtin (R := wants (fun r s2 => r = .none ∧ ∃ h' tk, s2 = { s with heap := h', toks := tk } ∧ TxR P w h' s.heap.objs.size (allL ts) ∧ (∀ b o, s.heap.get? b = some o → h'.get? b = some o)) E)
      PySem.F.called_set.init.plain PySem.F.entry_set_init (check_set_init_1 hT ?_)) fun r2 s2 hr2 => ?_
    · obtain ⟨ol, hol, hcl, nl, hdl⟩ := id hl
      obtain ⟨ocls, odict, odata, oslots⟩ := ol
      simp only at hcl hdl
      subst hcl
      subst hdl
      have hol2 : hS.get? l = some { cls := .type "tuple", dict := odict, data := .seq items nl, slots := oslots } := keep _ _ hol
      have hsls := PySem.F.sub_tuple_set
      have hslf := PySem.F.sub_tuple_frozenset
      have hne : (Value.type "tuple" == Value.type "dict") = false := by decide
      have hl2 : hS.IsTuple l items := ⟨_, hol2, rfl, nl, rfl⟩
      obtain ⟨D0, e0, F0, _⟩ := id new
      have hS0 : hS.get? s.heap.objs.size = some { cls := .type "set", dict := none, data := .set #[] 0 (.fresh 0 0 (!w.params.followText "set-order")) } := by rw [← hz]; exact Heap.get?_push_size _ rfl
      unfold Builtin.«set.__init__» noKeywords Builtin.Frozenset.updateFrom
      generalize hPI : pyIter = PI
      wp_walk
      subst hPI
      refine wpAny_pyIter_tuple hl2 (wpAny_bind (wpAny_runValue ?_))
      have low : l < s.heap.objs.size := Heap.lt_size hol
      have nI : l ≠ hS.objs.size := by rw [size]; exact Nat.ne_of_lt (Nat.lt_succ_of_lt low)
      have nf : s.heap.objs.size ∉ [hS.objs.size, l] := by
        rw [size]
        simp only [List.mem_cons, List.not_mem_nil, or_false, not_or]
        exact ⟨Nat.ne_of_lt (Nat.lt_succ_self _), Nat.ne_of_gt low⟩
      have lt : items.size = ts.length := by rw [← Array.length_toList]; exact hi.length
      have walk := (Walks.tuple (prog := P) (w := w) (A := A.in1.in1.in1) (by simp [hh]) hS.objs.size l nI items).toS
      rw [lt] at walk
      refine loopT walk s.heap.objs.size nf (fun i v hv => ?_) hb (ts.length - 0) 0 _ rfl (Nat.zero_le _) ⟨⟨_, Heap.get?_push_size _ rfl, rfl, rfl⟩, hl2.push _⟩ (new.at fun o e => Heap.get?_push_of_some _ e) fun s3 hm R3 => ?_
      · have hv' : items.toList[i]? = some v := by rw [Array.getElem?_toList]; exact hv
        exact strs_get hi hv'
      · obtain ⟨h3, g3, d3, tk3, os3⟩ := s3
        have eg : g3 = s.gens := hm.gens
        have ed : d3 = s.drawn := hm.drawn
        have eo : os3 = s.os := hm.os
        subst eg
        subst ed
        subst eo
        show wpAny _ _ _ _ _ _
        refine wpAny_pure ?_
        show wpAny _ _ (ret Value.none) _ _ _
        refine wpAny_pure ⟨rfl, h3, tk3, rfl, R3, fun b o e => ?_⟩
        have lb : b < s.heap.objs.size := Heap.lt_size e
        refine hm.heap b o ?_ (Heap.get?_push_of_some _ (keep b o e))
        simp only [List.mem_cons, List.not_mem_nil, or_false, not_or]
        rw [size]
        exact ⟨Nat.ne_of_lt lb, Nat.ne_of_lt (Nat.lt_succ_of_lt lb)⟩
    · match r2, hr2 with
      | .error e, hr2 => exact hr2
      | .ok .next, hr2 => exact hr2.elim
      | .ok .brk, hr2 => exact hr2.elim
      | .ok .cont, hr2 => exact hr2.elim
      | .ok (.ret r), hr2 =>
        obtain ⟨rfl, h', tk, rfl, R3, k3⟩ := hr2
        repeat (any_goals (first | assumption | wp_step))
        exact h _ _ R3 k3
end
section
variable {X : Cx}
def rSetOfT (K : PySem.W.Frag) (P : Program) (w : World) : List V → Hp → VK → Prop := fun xs H Q => ∃ (a : Addr) (ts : List Str), xs = [.ref a] ∧ SqT K H a (ts.map V.str) ∧ ts.length + 1 < scanBound ∧ ∀ p, H p = none → Q (.ref p) (upd H p (SetT P w p (allL ts)))
theorem cr_setOfT (hc : X.calm = true) : CallR X (.type "set") (rSetOfT X.K X.prog X.w) := by
  intro pins s σ H xs us Q I r h
  obtain ⟨a, ts, rfl, hs, hb, q⟩ := h
  obtain ⟨u, rfl, ru⟩ := vals1 r
  cases ru
  obtain ⟨its, rv, hl, _⟩ := I.tuple hs
  refine set_of_tup (I.ok.hd hc) hl (by simpa using rv.strs) hb fun h' tk R k => ?_
  exact ⟨.ref _, upd H s.heap.objs.size (SetT X.prog X.w s.heap.objs.size (allL ts)), I.laid (t' := tk) k (Nat.le_refl _) (setT_new R), rfl, q _ (I.hok.fresh (Nat.le_refl _))⟩
end
end L2.Fu
/-! ## Formulas -/
namespace L2.Fu
open PySem PySem.Spec PyProof.Rows
inductive Fm where
  | ft (x : Str)
  | nd (h : Str) (ps : List Fm)
mutual
def subs : Fm → List Fm
  | .ft x => [.ft x]
  | .nd h ps => .nd h ps :: subsAll ps
def subsAll : List Fm → List Fm
  | [] => []
  | p :: ps => subs p ++ subsAll ps
end
mutual
/-- the features that stand in it, from the left -/
def feats : Fm → List Str
  | .ft x => [x]
  | .nd _ ps => featsAll ps
def featsAll : List Fm → List Str
  | [] => []
  | p :: ps => feats p ++ featsAll ps
end
mutual
/-- how often "not" stands in it -/
def nots : Fm → Nat
  | .ft _ => 0
  | .nd h ps => (if h = "not" then 1 else 0) + notsAll ps
def notsAll : List Fm → Nat
  | [] => 0
  | p :: ps => nots p + notsAll ps
end
mutual
def datOf : Fm → PyData
  | .ft x => .tuple [.str "feature", .str x]
  | .nd h ps => .tuple (.str h :: datAll ps)
def datAll : List Fm → List PyData
  | [] => []
  | p :: ps => datOf p :: datAll ps
end
mutual
def tall : Fm → Nat
  | .ft _ => 1
  | .nd _ ps => tallAll ps + 1
def tallAll : List Fm → Nat
  | [] => 0
  | p :: ps => max (tall p) (tallAll ps)
end
def ten : List Str := ["a", "alloc", "b", "c", "d", "longname", "not", "std", "x", "zz"]
def heads : List Str := ["all", "any", "not"]
mutual
/-- its features are of the ten, its words the three, a not has one part -/
def Ok : Fm → Prop
  | .ft x => x ∈ ten
  | .nd h ps => h ∈ heads ∧ (h = "not" → ps.length = 1) ∧ OkAll ps
def OkAll : List Fm → Prop
  | [] => True
  | p :: ps => Ok p ∧ OkAll ps
end
def parts : Fm → List Fm
  | .ft _ => []
  | .nd _ ps => ps
theorem subs_parts (f : Fm) : subs f = f :: subsAll (parts f) := by
  cases f with
  | ft x => simp only [subs, parts, subsAll]
  | nd h ps => simp only [subs, parts]
theorem subsAll_append : ∀ as bs : List Fm, subsAll (as ++ bs) = subsAll as ++ subsAll bs
  | [], bs => by simp only [subsAll, List.nil_append]
  | a :: as, bs => by simp only [subsAll, List.cons_append, subsAll_append as bs, List.append_assoc]
def ftOf : Fm → Option Str
  | .ft x => some x
  | .nd _ _ => none
mutual
theorem feats_subs : ∀ f : Fm, (subs f).filterMap ftOf = feats f
  | .ft x => by simp only [subs, feats]; rfl
  | .nd h ps => by
    simp only [subs, feats]
    rw [List.filterMap_cons_none (show ftOf (.nd h ps) = none from rfl)]
    exact feats_subsAll ps
theorem feats_subsAll : ∀ ps : List Fm, (subsAll ps).filterMap ftOf = featsAll ps
  | [] => by simp only [subsAll, featsAll]; rfl
  | p :: ps => by simp only [subsAll, featsAll, List.filterMap_append, feats_subs p, feats_subsAll ps]
end
def isNot : Fm → Bool
  | .ft _ => false
  | .nd h _ => decide (h = "not")
mutual
theorem nots_subs : ∀ f : Fm, nots f = 0 ↔ ∀ g ∈ subs f, isNot g = false
  | .ft x => by
    simp only [subs, nots, List.mem_singleton]
    exact ⟨fun _ g e => by rw [e]; rfl, fun _ => trivial⟩
  | .nd h ps => by
    simp only [subs, nots, List.mem_cons]
    have ih := nots_subsAll ps
    constructor
    · intro z g hg
      have z1 : (if h = "not" then 1 else 0) = 0 := by omega
      have z2 : notsAll ps = 0 := by omega
      rcases hg with rfl | hg
      · show decide (h = "not") = false
        refine decide_eq_false fun e => ?_
        rw [if_pos e] at z1
        cases z1
      · exact ih.mp z2 g hg
    · intro z
      have z1 : decide (h = "not") = false := z (.nd h ps) (.inl rfl)
      rw [if_neg (of_decide_eq_false z1), ih.mpr fun g hg => z g (.inr hg)]
theorem nots_subsAll : ∀ ps : List Fm, notsAll ps = 0 ↔ ∀ g ∈ subsAll ps, isNot g = false
  | [] => by
    simp only [subsAll, notsAll]
    exact ⟨fun _ g h => absurd h List.not_mem_nil, fun _ => trivial⟩
  | p :: ps => by
    simp only [subsAll, notsAll, List.mem_append]
    have a := nots_subs p
    have b := nots_subsAll ps
    constructor
    · intro z g hg
      exact hg.elim (a.mp (by omega) g) (b.mp (by omega) g)
    · intro z
      rw [a.mpr fun g hg => z g (.inl hg), b.mpr fun g hg => z g (.inr hg)]
end
theorem one_subs : ∀ f : Fm, 1 ≤ (subs f).length
  | .ft x => by simp only [subs]; exact Nat.le_refl 1
  | .nd h ps => by simp only [subs, List.length_cons]; omega
mutual
theorem feats_len : ∀ f : Fm, (feats f).length ≤ (subs f).length
  | .ft x => by simp only [subs, feats]; exact Nat.le_refl _
  | .nd h ps => by
    simp only [subs, feats, List.length_cons]
    have := featsAll_len ps
    omega
theorem featsAll_len : ∀ ps : List Fm, (featsAll ps).length ≤ (subsAll ps).length
  | [] => by simp only [subsAll, featsAll]; exact Nat.le_refl _
  | p :: ps => by
    simp only [subsAll, featsAll, List.length_append]
    have := feats_len p
    have := featsAll_len ps
    omega
end
mutual
theorem feats_ten : ∀ f : Fm, Ok f → ∀ x ∈ feats f, x ∈ ten
  | .ft y, h, x, hx => by
    simp only [feats, List.mem_singleton] at hx
    simp only [Ok] at h
    exact hx ▸ h
  | .nd w ps, h, x, hx => by
    simp only [feats] at hx
    simp only [Ok] at h
    exact featsAll_ten ps h.2.2 x hx
theorem featsAll_ten : ∀ ps : List Fm, OkAll ps → ∀ x ∈ featsAll ps, x ∈ ten
  | [], _, x, hx => by simp only [featsAll] at hx; cases hx
  | p :: ps, h, x, hx => by
    simp only [featsAll, List.mem_append] at hx
    simp only [OkAll] at h
    exact hx.elim (feats_ten p h.1 x) (featsAll_ten ps h.2 x)
end
theorem ten_short : ∀ x ∈ ten, (reprText x).length ≤ 10 := by decide +kernel
theorem heads_short : ∀ x ∈ heads, (reprText x).length ≤ 5 := by decide +kernel
theorem feature_short : (reprText "feature").length ≤ 9 := by decide +kernel
mutual
theorem shows_fm : ∀ f : Fm, Ok f → Shows (datOf f) (32 * (subs f).length - 2) (tall f)
  | .ft x, h => by
    simp only [Ok] at h
    simp only [datOf, subs, tall]
    exact (Shows.tup (.cons (shows_str (k := 0) feature_short) (.cons (shows_str (ten_short x h)) (.nil 0)))).more (by show 9 + 2 + (10 + 2 + 0) + 3 ≤ 32 * 1 - 2; decide) (by decide)
  | .nd w ps, h => by
    simp only [Ok] at h
    simp only [datOf, subs, tall, List.length_cons]
    have a := shows_fms ps h.2.2
    exact (Shows.tup (.cons (shows_str (k := tallAll ps) (heads_short w h.1)) a)).more (by omega) (Nat.le_refl _)
theorem shows_fms : ∀ ps : List Fm, OkAll ps → ShowsAll (datAll ps) (32 * (subsAll ps).length) (tallAll ps)
  | [], _ => by
    simp only [datAll, subsAll, tallAll]
    exact .nil 0
  | p :: ps, h => by
    simp only [OkAll] at h
    simp only [datAll, subsAll, tallAll, List.length_append]
    have a := (shows_fm p h.1).more (Nat.le_refl _) (Nat.le_max_left (tall p) (tallAll ps))
    have b := (shows_fms ps h.2).more (Nat.le_refl _) (Nat.le_max_right (tall p) (tallAll ps))
    have c := one_subs p
    exact (ShowsAll.cons a b).more (by omega) (Nat.le_refl _)
end

/-! ### formulas in the heap -/
mutual
inductive FmAt (H : Hp) : V → Fm → Prop
  | ft {a : Addr} {x : Str} : H a = some (.tup [.str "feature", .str x]) → FmAt H (.ref a) (.ft x)
  | nd {a : Addr} {h : Str} {vs : List V} {ps : List Fm} : H a = some (.tup (.str h :: vs)) → h ≠ "feature" → FmAll H vs ps → FmAt H (.ref a) (.nd h ps)
inductive FmAll (H : Hp) : List V → List Fm → Prop
  | nil : FmAll H [] []
  | cons {v : V} {vs : List V} {f : Fm} {fs : List Fm} : FmAt H v f → FmAll H vs fs → FmAll H (v :: vs) (f :: fs)
end
/-- all tuples are as they were -/
def SameT (H H' : Hp) : Prop := ∀ b xs, H b = some (.tup xs) → H' b = some (.tup xs)
theorem _root_.L2.Same.toT {H H' : Hp} (s : Same H H') : SameT H H' := fun b xs e => s b _ e
theorem SameT.trans {H H1 H2 : Hp} (a : SameT H H1) (b : SameT H1 H2) : SameT H H2 := fun c xs e => b c xs (a c xs e)
theorem sameT_lst {H : Hp} {l : Addr} {xs ys : List V} (e : H l = some (.lst xs)) : SameT H (upd H l (.lst ys)) := fun b zs k => by
  have ne : b ≠ l := fun z => by rw [z, e] at k; cases k
  rw [upd_ne ne]
  exact k
theorem FmAt.mono {H H' : Hp} (s : SameT H H') {v : V} {f : Fm} (h : FmAt H v f) : FmAt H' v f :=
  FmAt.rec (motive_1 := fun v f _ => FmAt H' v f) (motive_2 := fun vs fs _ => FmAll H' vs fs) (fun e => .ft (s _ _ e)) (fun e n _ q => .nd (s _ _ e) n q) .nil (fun _ _ a b => .cons a b) h
theorem FmAll.mono {H H' : Hp} (s : SameT H H') {vs : List V} {fs : List Fm} (h : FmAll H vs fs) : FmAll H' vs fs := by
  induction h using FmAll.rec (motive_1 := fun v d _ => True) with
  | nil => exact .nil
  | cons a _ _ b => exact .cons (a.mono s) b
  | _ => trivial
theorem FmAll.length {H : Hp} : ∀ {vs : List V} {fs : List Fm}, FmAll H vs fs → vs.length = fs.length
  | _, _, .nil => rfl
  | _, _, .cons _ t => by rw [List.length_cons, List.length_cons, FmAll.length t]
theorem FmAll.append {H : Hp} : ∀ {vs us : List V} {fs gs : List Fm}, FmAll H vs fs → FmAll H us gs → FmAll H (vs ++ us) (fs ++ gs)
  | _, _, _, _, .nil, s => s
  | _, _, _, _, .cons a t, s => .cons a (FmAll.append t s)
theorem FmAll.get {H : Hp} : ∀ {vs : List V} {fs : List Fm} {i : Nat} {v : V}, FmAll H vs fs → vs[i]? = some v → ∃ f, fs[i]? = some f ∧ FmAt H v f
  | _, _, _, _, .nil, e => by simp at e
  | _, _, 0, _, .cons a t, e => by simp at e; subst e; exact ⟨_, rfl, a⟩
  | _, _, i + 1, v, .cons a t, e => by
    obtain ⟨f, h1, h2⟩ := FmAll.get (i := i) (v := v) t (by simpa using e)
    exact ⟨f, by simpa using h1, h2⟩
/-- the last one, and those ahead of it -/
theorem FmAll.last {H : Hp} : ∀ {vs : List V} {fs : List Fm}, FmAll H vs fs → vs ≠ [] → ∃ (v : V) (f : Fm) (gs : List Fm), vs[vs.length - 1]? = some v ∧ fs = gs ++ [f] ∧ FmAt H v f ∧ FmAll H vs.dropLast gs
  | _, _, .nil, n => absurd rfl n
  | _, _, .cons (v := v) (f := f) a .nil, _ => ⟨v, f, [], rfl, rfl, a, .nil⟩
  | _, _, .cons (v := v) (f := f) a (.cons (vs := us) b t), _ => by
    obtain ⟨v', f', gs, h1, h2, h3, h4⟩ := FmAll.last (.cons b t) (by simp)
    refine ⟨v', f', f :: gs, ?_, by rw [h2]; rfl, h3, .cons a h4⟩
    simpa using h1
theorem FmAt.da {H : Hp} {v : V} {f : Fm} (h : FmAt H v f) : Da H v (datOf f) := by
  refine FmAt.rec (motive_1 := fun v f _ => Da H v (datOf f)) (motive_2 := fun vs fs _ => DaAll H vs (datAll fs)) ?_ ?_ ?_ ?_ h
  · intro a x e
    simp only [datOf]
    exact .tup e (.cons (.str _) (.cons (.str _) .nil))
  · intro a w vs ps e n _ q
    simp only [datOf]
    exact .tup e (.cons (.str _) q)
  · simp only [datAll]
    exact .nil
  · intro v vs f fs _ _ a b
    simp only [datAll]
    exact .cons a b
/-- a formula is a tuple whose first item is a word -/
theorem FmAt.shape {H : Hp} {v : V} {f : Fm} (h : FmAt H v f) : ∃ (a : Addr) (w : Str) (vs : List V), v = .ref a ∧ H a = some (.tup (.str w :: vs)) ∧
    ((∃ x, f = .ft x ∧ w = "feature" ∧ vs = [.str x]) ∨ (∃ ps, f = .nd w ps ∧ w ≠ "feature" ∧ FmAll H vs ps)) := by
  cases h with
  | ft e => exact ⟨_, _, _, rfl, e, .inl ⟨_, rfl, rfl, rfl⟩⟩
  | nd e n q => exact ⟨_, _, _, rfl, e, .inr ⟨_, rfl, n, q⟩⟩

/-! ### texts in order -/
def leT (x y : Str) : Prop := x.cps.toList ≤ y.cps.toList
theorem leT_trans {x y z : Str} (h : leT x y) (k : leT y z) : leT x z := List.le_trans h k
theorem leT_anti {x y : Str} (h : leT x y) (k : leT y x) : x = y := by
  obtain ⟨⟨a⟩⟩ := x
  obtain ⟨⟨b⟩⟩ := y
  have e : a = b := List.le_antisymm h k
  rw [e]
theorem rising_pair : ∀ (ys : List Str) (x : Str), risingS x ys = true → (x :: ys).Pairwise leT
  | [], x, _ => List.pairwise_singleton _ _
  | y :: ys, x, h => by
    have h' : (!ltCps y.cps.toList x.cps.toList && risingS y ys) = true := h
    obtain ⟨h1, h2⟩ := Bool.and_eq_true_iff.mp h'
    rw [ltCps_eq, Bool.not_eq_true', decide_eq_false_iff_not] at h1
    have xy : leT x y := List.not_lt.mp h1
    have t := rising_pair ys y h2
    refine List.pairwise_cons.mpr ⟨fun z hz => ?_, t⟩
    rcases List.mem_cons.mp hz with rfl | hz
    · exact xy
    · exact leT_trans xy ((List.pairwise_cons.mp t).1 z hz)
theorem sorted_pair : ∀ {ys : List Str}, sortedS ys = true → ys.Pairwise leT
  | [], _ => .nil
  | x :: ys, h => rising_pair ys x h
/-- two arrangements in order of the same texts are one -/
theorem sorted_one {xs ys : List Str} (hx : sortedS xs = true) (hy : sortedS ys = true) (p : xs.Perm ys) : xs = ys :=
  List.Perm.eq_of_pairwise (fun _ _ _ _ a b => leT_anti a b) (sorted_pair hx) (sorted_pair hy) p
/-- two lists without repetition that have the same members are arrangements of each other -/
theorem perm_of_mem {α : Type} [DecidableEq α] : ∀ {xs ys : List α}, xs.Nodup → ys.Nodup → (∀ x, x ∈ xs ↔ x ∈ ys) → xs.Perm ys
  | [], ys, _, _, h => by
    cases ys with
    | nil => exact .nil
    | cons y ys => exact absurd ((h y).mpr List.mem_cons_self) (List.not_mem_nil)
  | x :: xs, ys, nx, ny, h => by
    have hx : x ∈ ys := (h x).mp List.mem_cons_self
    have p := List.perm_cons_erase hx
    refine (List.Perm.cons x (perm_of_mem (List.nodup_cons.mp nx).2 (ny.erase x) fun z => ?_)).trans p.symm
    rw [ny.mem_erase_iff]
    constructor
    · intro hz
      exact ⟨fun e => (List.nodup_cons.mp nx).1 (e ▸ hz), (h z).mp (List.mem_cons_of_mem _ hz)⟩
    · rintro ⟨ne, hz⟩
      exact (List.mem_cons.mp ((h z).mpr hz)).resolve_left ne
/-- a list without repetition, all of it of the ten -/
theorem ten_len {l : List Str} (nd : l.Nodup) (h : ∀ x ∈ l, x ∈ ten) : l.length ≤ 10 := by
  have key : ∀ (l d : List Str), l.Nodup → (∀ x ∈ l, x ∈ d) → l.length ≤ d.length := by
    intro l
    induction l with
    | nil => intro d _ _; exact Nat.zero_le _
    | cons x l ih =>
      intro d nd h
      have hx := h x List.mem_cons_self
      have p := (List.perm_cons_erase hx).length_eq
      have q := ih (d.erase x) (List.nodup_cons.mp nd).2 fun y hy => (List.mem_erase_of_ne (fun (e : y = x) => (List.nodup_cons.mp nd).1 (e ▸ hy))).mpr (h y (List.mem_cons_of_mem _ hy))
      rw [List.length_cons] at p ⊢
      omega
  exact key l ten nd h
end L2.Fu
/-! ## The text by places -/
namespace L2.Fu
open PySem PySem.Spec PyProof.Rows
def top (i : Nat) : Stmt := PySem.Challenge.pw_featureunion_k03_whole_formulas_at_all_s.main.body.getD i (.Pass ⟨0, 0, 0, 0⟩)
abbrev sParts : Stmt := top 1
abbrev sIn : Stmt := top 2
abbrev sFeat : Stmt := top 3
abbrev sHolds : Stmt := top 4
abbrev sPos : Stmt := top 5
abbrev sHand : Stmt := top 7
abbrev sTake : Stmt := top 8
abbrev sOf : Stmt := top 9
abbrev sNames : Stmt := top 10
abbrev sForm : Stmt := top 11
abbrev sLHolds : Stmt := top 12
abbrev sSubs : Stmt := top 13
abbrev sMixed : Stmt := top 14
abbrev sRight : Stmt := top 15
abbrev sLaw : Stmt := top 16
abbrev ofN : Str := "_law_hand_here"
abbrev ofS : Str := "_law_some"
end L2.Fu
/-! ## What the program's defs do -/
namespace L2.Fu
open PySem PySem.Spec PyProof.Rows
theorem cut_one (x : V) (xs : List V) : cutV (x :: xs) (some 1) none = xs := by
  unfold cutV
  have e : HT.sIx (x :: xs).length 0 (some (1 : Int)) = 1 := by
    have := HT.sIx_nat (x :: xs).length 0 1
    rw [List.length_cons] at this ⊢
    exact this.trans (by omega)
  rw [e, HT.sIx_none, List.drop_one, List.tail_cons, List.length_cons, Nat.add_sub_cancel, List.take_length]
theorem cut_not (x : V) (xs : List V) : ¬ (HT.sIx (x :: xs).length 0 (some (1 : Int)) = 0 ∧ HT.sIx (x :: xs).length (x :: xs).length none = (x :: xs).length) := by
  rintro ⟨h, _⟩
  have e : HT.sIx (x :: xs).length 0 (some (1 : Int)) = 1 := by
    have := HT.sIx_nat (x :: xs).length 0 1
    rw [List.length_cons] at this ⊢
    exact this.trans (by omega)
  rw [e] at h
  cases h
theorem at_zero {α : Type} (x : α) (xs : List α) : atI (x :: xs) 0 = some x := atI_nat (j := 0) rfl
theorem at_one {α : Type} (x y : α) (xs : List α) : atI (x :: y :: xs) 1 = some y := atI_nat (j := 1) rfl
/-- a while loop behind a name that was just written -/
theorem while_set {c : TT} {tb u : TS} {D : Ends} {σ : St} {H : Hp} {i : Nat} {x : V} (Pv : St → Hp → Prop) (μ : St → Hp → Nat) (h0 : Pv (σ.set i (some x)) H)
    (hs : ∀ σ H, Pv σ H → c σ H fun b H1 => if b = true then tb { D with nx := fun σ' H' => Pv σ' H' ∧ μ σ' H' < μ σ H, ct := fun σ' H' => Pv σ' H' ∧ μ σ' H' < μ σ H, bk := u D } σ H1 else u D σ H1)
    (mono : ∀ σ H Q Q', (∀ b H1, Q b H1 → Q' b H1) → c σ H Q → c σ H Q') : gName i x σ H (tSeq (tWhile c tb) u D) :=
  while_by (D := { D with nx := u D }) Pv μ h0 hs mono
def lenAt (H : Hp) (a : Addr) : Nat := match H a with
  | some (.lst xs) => xs.length
  | _ => 0
theorem lenAt_of {H : Hp} {a : Addr} {xs : List V} (e : H a = some (.lst xs)) : lenAt H a = xs.length := by
  unfold lenAt
  rw [e]
def spParts : Sp := fun vs H Q _ => ∃ (v : V) (f : Fm), vs = [v] ∧ FmAt H v f ∧ ∀ (H' : Hp) (q : Addr) (ws : List V), Same H H' → H' q = some (.tup ws) → FmAll H' ws (parts f) → Q (.ref q) H'
def spIn : Sp := fun vs H Q _ => ∃ (v : V) (f : Fm), vs = [v] ∧ FmAt H v f ∧ (subs f).length ≤ 100000 ∧ ∀ (H' : Hp) (l : Addr) (ws : List V) (L : List Fm), Same H H' → H' l = some (.lst ws) → FmAll H' ws L → L.Perm (subs f) → Q (.ref l) H'
def spFeat : Sp := fun vs H Q _ => ∃ (v : V) (f : Fm), vs = [v] ∧ FmAt H v f ∧ (subs f).length ≤ 100000 ∧ Ok f ∧ ∀ (H' : Hp) (q : Addr) (ys : List Str), Same H H' → H' q = some (.tup (ys.map V.str)) → ys.Nodup → (∀ x, x ∈ ys ↔ x ∈ feats f) → sortedS ys = true → Q (.ref q) H'
def spPos : Sp := fun vs H Q _ => ∃ (v : V) (f : Fm), vs = [v] ∧ FmAt H v f ∧ (subs f).length ≤ 100000 ∧ ∀ H' : Hp, Same H H' → Q (.bl (decide (nots f = 0))) H'
section
variable {P : Program} {w : World} {K : PySem.W.Frag} {mg : Str → Option Value} {base : Heap}
theorem scParts : FnScope ["formula"] ["formula"] (defScope sParts) := ⟨rfl, rfl, rfl, by decide +kernel, rfl, by decide +kernel, by decide +kernel⟩
theorem ok_parts {f : Addr} {fd : FuncData} (F : Fun K "parts_of" "parts_of" sParts f fd) : FnOk P w K mg base CX0 1 f fd ["formula"] spParts := by
  refine F.ok scParts (fun vs H Q E h => ?_) (fun cdv A outer s H vs Q E hr h => ?_)
  · obtain ⟨v, g, rfl, _⟩ := h
    rfl
  · obtain ⟨v, g, rfl, at_g, q⟩ := h
    refine ⟨_, pss_cons (ps_if (pt_cmpR op_eq (pe_ix ix_tup (pv 0) pe_int (fun _ _ => rfl)) pe_str (nomark _)) (pss_one (ps_ret (pe_tup pa_nil))) pss_nil) (pss_one (ps_ret (pe_slice sl_tup (pv 0) (po_some pe_int) po_none))), ?_⟩
    obtain ⟨a, wd, us, rfl, e, sh⟩ := at_g.shape
    refine ⟨_, rfl, a, _, _, _, rfl, rfl, SqT.of e, at_zero _ _, rfl, _, rfl, ?_⟩
    rcases sh with ⟨x, rfl, rfl, rfl⟩ | ⟨ps, rfl, nw, all⟩
    · rw [decide_eq_true rfl]
      refine iteT ⟨Nat.zero_le _, fun p np => q _ p [] (same_new np) upd_same .nil⟩
    · rw [decide_eq_false (fun z => nw (V.str.inj z))]
      refine iteF ⟨_, rfl, _, rfl, a, _, rfl, SqT.of e, cut_not _ _, fun p np => ?_⟩
      rw [cut_one]
      exact q _ p us (same_new np) upd_same (all.mono (same_new np).toT)
theorem scIn : FnScope ["formula", "found", "waiting", "part"] ["formula"] (defScope sIn) := ⟨rfl, rfl, rfl, by decide +kernel, rfl, by decide +kernel, by decide +kernel⟩
theorem ok_in {f fP : Addr} {fd fdP : FuncData} (F : Fun K "formulas_in" "formulas_in" sIn f fd) (GP : FnOk P w K mg base CX0 1 fP fdP ["formula"] spParts) (mP : mg "parts_of" = some (.ref fP)) (kP : PySem.W.keepIn K (.ref fP) = true) (bP : Binds K fdP ["formula"] []) :
    FnOk P w K mg base CX0 2 f fd ["formula"] spIn := by
  refine F.ok scIn (fun vs H Q E h => ?_) (fun cdv A outer s H vs Q E hr h => ?_)
  · obtain ⟨v, g, rfl, _⟩ := h
    rfl
  · obtain ⟨v, g, rfl, at_g, sz, q⟩ := h
    refine ⟨_, pss_cons (ps_set (i := 1) scIn.nd rfl (.inl rfl) (pe_lst pa_nil)) (pss_cons (ps_set (i := 2) scIn.nd rfl (.inl rfl) (pe_lst (pa_cons (pv 0) pa_nil)))
      (pss_cons (ps_while PassesOwn.never (pt_truth (pv 2) (fun _ => rfl)) (pss_cons (ps_set (i := 3) scIn.nd rfl (.inl rfl) (pe_bm0 PySem.F.plainAttrs_list PySem.F.slot_list_pop PySem.F.type_list_pop mt_pop (pv 2)))
        (pss_cons (ps_expr (pe_bm PySem.F.plainAttrs_list PySem.F.slot_list_append PySem.F.type_list_append mt_append (pv 1) (pa_cons (pv 3) pa_nil)))
        (pss_one (ps_expr (pe_bm PySem.F.plainAttrs_list PySem.F.slot_list_extend PySem.F.type_list_extend mt_extT (pv 2) (pa_cons (pe_call GP hr rfl mP kP bP .nil pass0 (pa_cons (pv 3) pa_nil)) pa_nil)))))))
      (pss_one (ps_ret (pv 1))))), ?_⟩
    refine ⟨Nat.zero_le _, fun lf nf => ⟨_, rfl, (by show 1 ≤ sizeLine; decide), fun lw nw => ?_⟩⟩
    have nlw : lf ≠ lw := ne_of_none upd_same nw
    have sA : Same H (upd (upd H lf (.lst [])) lw (.lst [v])) := (same_new nf).trans (same_new nw)
    have hf : H lw = none := (same_new nf).free nw
    dsimp only []
    refine while_set (fun σ Hc => ∃ (c : Option V) (us ws : List V) (L W : List Fm), σ = [some v, some (.ref lf), some (.ref lw), c] ∧ Same H Hc ∧ Hc lf = some (.lst us) ∧ Hc lw = some (.lst ws) ∧ FmAll Hc us L ∧ FmAll Hc ws W ∧ (L ++ subsAll W).Perm (subs g))
      (fun σ Hc => 100001 - lenAt Hc lf) ?_ ?_ ?_
    · refine ⟨none, [], [v], [], [g], rfl, sA, by rw [upd_ne nlw, upd_same], upd_same, .nil, .cons (at_g.mono sA.toT) .nil, ?_⟩
      simp only [subsAll, List.append_nil, List.nil_append]
      exact .refl _
    · rintro σ Hc ⟨c, us, ws, L, W, rfl, s1, e1, e2, aL, aW, pm⟩
      refine ⟨_, rfl, !ws.isEmpty, .inl ⟨ws, SqL.of e2, rfl⟩, ite2 (fun hc => ?_) (fun hc => ?_)⟩
      · have ne : ws ≠ [] := fun z => by rw [z] at hc; cases hc
        obtain ⟨y, fy, gs, hy, rfl, ay, ag⟩ := aW.last ne
        have lens := pm.length_eq
        rw [List.length_append, subsAll_append, List.length_append] at lens
        have l1 : (subsAll [fy]).length = (subs fy).length := by simp only [subsAll, List.append_nil]
        have l2 := one_subs fy
        have lu := aL.length
        refine ⟨_, rfl, .inl ⟨rfl, _, SqL.of e2⟩, lw, ws, y, rfl, rfl, e2, hy, ?_⟩
        have sB := sameT_lst (ys := ws.dropLast) e2
        have e1' : upd Hc lw (.lst ws.dropLast) lf = some (.lst us) := by rw [upd_ne nlw]; exact e1
        refine ⟨_, rfl, .inl ⟨rfl, _, SqL.of e1'⟩, _, rfl, lf, us, y, rfl, rfl, e1', Nat.lt_of_le_of_lt (show us.length ≤ 100000 by omega) (by decide), ?_⟩
        have sC := sB.trans (sameT_lst (ys := us ++ [y]) e1')
        have e2' : upd (upd Hc lw (.lst ws.dropLast)) lf (.lst (us ++ [y])) lw = some (.lst ws.dropLast) := by rw [upd_ne (Ne.symm nlw), upd_same]
        have sD : Same H (upd (upd Hc lw (.lst ws.dropLast)) lf (.lst (us ++ [y]))) := fun b o k => by
          rw [upd_ne (ne_of_none k nf), upd_ne (ne_of_none k hf)]
          exact s1 b o k
        have e1'' : upd (upd Hc lw (.lst ws.dropLast)) lf (.lst (us ++ [y])) lf = some (.lst (us ++ [y])) := upd_same
        generalize upd (upd Hc lw (.lst ws.dropLast)) lf (.lst (us ++ [y])) = H2 at sC e2' sD e1''
        refine ⟨_, rfl, .inl ⟨rfl, _, SqL.of e2'⟩, _, rfl, y, fy, rfl, ay.mono sC, fun H3 p3 ps3 s3 e3 a3 => ?_⟩
        have lp := a3.length
        have lg := ag.length
        have subP := subs_parts fy
        have lsp : (subs fy).length = (subsAll (parts fy)).length + 1 := by rw [subP]; rfl
        have lpp : (parts fy).length ≤ (subsAll (parts fy)).length := by
          have key : ∀ fs : List Fm, fs.length ≤ (subsAll fs).length := by
            intro fs
            induction fs with
            | nil => exact Nat.zero_le _
            | cons a fs ih =>
              simp only [subsAll, List.length_cons, List.length_append]
              have := one_subs a
              omega
          exact key _
        have lgs : gs.length ≤ (subsAll gs).length := by
          have key : ∀ fs : List Fm, fs.length ≤ (subsAll fs).length := by
            intro fs
            induction fs with
            | nil => exact Nat.zero_le _
            | cons a fs ih =>
              simp only [subsAll, List.length_cons, List.length_append]
              have := one_subs a
              omega
          exact key _
        refine ⟨lw, p3, ws.dropLast, ps3, rfl, rfl, s3 _ _ e2', SqT.of e3, Nat.le_trans (show ws.dropLast.length + ps3.length ≤ 100000 by omega) (by decide), ?_⟩
        have e3w := s3 _ _ e2'
        have sE := sC.trans (s3.toT.trans (sameT_lst (ys := ws.dropLast ++ ps3) e3w))
        have sF := s3.toT.trans (sameT_lst (ys := ws.dropLast ++ ps3) e3w)
        have at_lf : upd H3 lw (.lst (ws.dropLast ++ ps3)) lf = some (.lst (us ++ [y])) := by rw [upd_ne nlw]; exact s3 _ _ e1''
        refine ⟨⟨some y, us ++ [y], ws.dropLast ++ ps3, L ++ [fy], gs ++ parts fy, rfl, fun b o k => ?_, at_lf, upd_same, (aL.mono sE).append (.cons (ay.mono sE) .nil), (ag.mono sE).append (a3.mono (sameT_lst e3w)), ?_⟩, ?_⟩
        · rw [upd_ne (ne_of_none k hf)]
          exact s3 _ _ (sD b o k)
        · refine List.Perm.trans ?_ pm
          rw [subsAll_append, subsAll_append, List.append_assoc]
          refine List.Perm.append_left L ?_
          simp only [subsAll, List.append_nil]
          rw [subP]
          show (fy :: (subsAll gs ++ subsAll (parts fy))).Perm (subsAll gs ++ fy :: subsAll (parts fy))
          exact List.perm_middle.symm
        · show 100001 - lenAt (upd H3 lw (.lst (ws.dropLast ++ ps3))) lf < 100001 - lenAt Hc lf
          rw [lenAt_of at_lf, lenAt_of e1]
          show 100001 - (us ++ [y]).length < 100001 - us.length
          rw [List.length_append, List.length_singleton]
          omega
      · have emp : ws = [] := by
          cases ws with
          | nil => rfl
          | cons a b => exact absurd rfl hc
        subst emp
        cases aW
        simp only [subsAll, List.append_nil] at pm
        exact ⟨_, rfl, q Hc lf us L s1 e1 aL pm⟩
    · rintro σ Hc Q1 Q2 imp ⟨x, hx, k, ht, hq⟩
      exact ⟨x, hx, k, ht, imp _ _ hq⟩
theorem scFeat : FnScope ["formula", "part"] ["formula"] (defScope sFeat) := ⟨rfl, rfl, rfl, by decide +kernel, rfl, by decide +kernel, by decide +kernel⟩
theorem ok_feat {f fI : Addr} {fd fdI : FuncData} (F : Fun K "features_of" "features_of" sFeat f fd) (GI : FnOk P w K mg base CX0 2 fI fdI ["formula"] spIn) (mI : mg "formulas_in" = some (.ref fI)) (kI : PySem.W.keepIn K (.ref fI) = true) (bI : Binds K fdI ["formula"] [])
    (zTup : mg "tuple" = none) (zSort : mg "sorted" = none) : FnOk P w K mg base CX0 3 f fd ["formula"] spFeat := by
  refine F.ok scFeat (fun vs H Q E h => ?_) (fun cdv A outer s H vs Q E hr h => ?_)
  · obtain ⟨v, g, rfl, _⟩ := h
    rfl
  · obtain ⟨v, g, rfl, at_g, sz, okg, q⟩ := h
    refine ⟨_, pss_one (ps_ret (pe_callTy call_tuple_of (by rfl) zTup PyProof.Rows.boot_tuple (pa_cons (pe_callB (cr_sortT rfl) (by rfl) zSort PyProof.Rows.boot_sorted (pa_cons
      (pe_scT (own := [("part", 1)]) (g := gName 1) (tt := tTest (tOp rEq (tOp (rIxT K) (tVar 1) (tC (.int 0))) (tC (.str "feature")))) (te := tOp (rIxT K) (tVar 1) (tC (.int 1))) rfl scFeat.nd (pi_list (pe_call GI hr rfl mI kI bI .nil pass0 (pa_cons (pv 0) pa_nil)))
        (blkOk_by (N := ["formula", "part"]) (sc := defScope sFeat) (by decide +kernel)) (fun _ _ _ _ _ => pg_name (i := 1) scFeat.nd rfl (.inl rfl))
        (fun _ _ _ _ _ => pts_one (pt_cmpR op_eq (pe_ix ix_tup (pv 1) pe_int (fun _ _ => rfl)) pe_str (nomark _))) (fun _ _ _ _ _ => pe_ix ix_tup (pv 1) pe_int (fun _ _ => rfl))) pa_nil)) pa_nil))), ?_⟩
    refine ⟨_, rfl, v, g, rfl, at_g, sz, fun H1 l us L s1 e1 aL pm => ?_⟩
    refine ⟨l, rfl, ⟨us, SqL.of e1⟩, fun D nD => ?_⟩
    have pmem : ∀ x, (∃ i, i < L.length ∧ L[i]? = some (.ft x)) ↔ x ∈ feats g := by
      intro x
      rw [← feats_subs g, List.mem_filterMap]
      constructor
      · rintro ⟨i, _, e⟩
        exact ⟨.ft x, pm.mem_iff.mp (List.mem_of_getElem? e), rfl⟩
      · rintro ⟨y, hy, ey⟩
        cases y with
        | ft z =>
          cases ey
          obtain ⟨i, li, e⟩ := List.mem_iff_getElem.mp (pm.mem_iff.mpr hy)
          exact ⟨i, li, by rw [List.getElem?_eq_getElem li, e]⟩
        | nd _ _ => cases ey
    have lenL := aL.length
    refine scT_list (xs := us) (fun i Hc => ∃ m : List Str, Same H1 Hc ∧ Hc D = some (SetT P w D m) ∧ m.Nodup ∧ (∀ x, x ∈ m ↔ ∃ j, j < i ∧ L[j]? = some (.ft x))) ⟨[], same_new nD, upd_same, List.nodup_nil, fun x => ⟨fun h => absurd h List.not_mem_nil, fun ⟨j, h, _⟩ => absurd h (Nat.not_lt_zero j)⟩⟩
      (fun i Hc ⟨_, sc, _⟩ => SqL.of (sc _ _ e1)) ?_ ?_
    · rintro i x Hc hx ⟨m, sc, eD, nd, mm⟩
      obtain ⟨fx, hfx, ax⟩ := aL.get hx
      have okx : ∀ y ∈ m, y ∈ ten := fun y hy => feats_ten g okg y ((pmem y).mp (by
        obtain ⟨j, _, e⟩ := (mm y).mp hy
        exact ⟨j, (List.getElem?_eq_some_iff.mp e).1, e⟩))
      have few := ten_len nd okx
      obtain ⟨a, wd, ws, rfl, e, sh⟩ := (ax.mono sc.toT).shape
      refine ⟨rfl, _, rfl, a, _, _, _, rfl, rfl, SqT.of e, at_zero _ _, rfl, _, rfl, ?_⟩
      rcases sh with ⟨y, rfl, rfl, rfl⟩ | ⟨ps, rfl, nw, all⟩
      · rw [decide_eq_true rfl]
        refine iteT ⟨_, rfl, a, _, _, _, rfl, rfl, SqT.of e, at_one _ _ _, y, m, rfl, eD, Nat.lt_of_le_of_lt (Nat.succ_le_succ few) (by decide), ?_⟩
        refine ⟨if y ∈ m then m else y :: m, fun b o k => ?_, upd_same, ?_, fun z => ?_⟩
        · rw [upd_ne (ne_of_none k nD)]
          exact sc b o k
        · split
          · exact nd
          · rename_i h
            exact List.nodup_cons.mpr ⟨h, nd⟩
        · have step : (z ∈ if y ∈ m then m else y :: m) ↔ z ∈ m ∨ z = y := mem_addL
          rw [step, mm z]
          constructor
          · rintro (⟨j, lj, ej⟩ | rfl)
            · exact ⟨j, Nat.lt_succ_of_lt lj, ej⟩
            · exact ⟨i, Nat.lt_succ_self i, hfx⟩
          · rintro ⟨j, lj, ej⟩
            by_cases q : j = i
            · subst q
              rw [hfx] at ej
              cases ej
              exact .inr rfl
            · exact .inl ⟨j, by omega, ej⟩
      · rw [decide_eq_false (fun z => nw (V.str.inj z))]
        refine iteF ⟨m, sc, eD, nd, fun z => ?_⟩
        rw [mm z]
        constructor
        · rintro ⟨j, lj, ej⟩
          exact ⟨j, Nat.lt_succ_of_lt lj, ej⟩
        · rintro ⟨j, lj, ej⟩
          by_cases q : j = i
          · subst q
            rw [hfx] at ej
            cases ej
          · exact ⟨j, by omega, ej⟩
    · rintro Hc ⟨m, sc, eD, nd, mm⟩
      have mf : ∀ x, x ∈ m ↔ x ∈ feats g := fun x => by
        rw [mm x, ← pmem x, lenL]
      have few := ten_len nd fun y hy => feats_ten g okg y ((mf y).mp hy)
      refine ⟨D, m, rfl, eD, by omega, fun ys p py hs np => ?_⟩
      refine ⟨p, _, rfl, .inl ⟨SqL.of upd_same, fun t nt => ?_⟩⟩
      exact q _ t ys (s1.trans (sc.trans ((same_new np).trans (same_new nt)))) upd_same (py.nodup_iff.mpr nd) (fun x => by rw [py.mem_iff, mf x]) hs
theorem scPos : FnScope ["formula", "part"] ["formula"] (defScope sPos) := ⟨rfl, rfl, rfl, by decide +kernel, rfl, by decide +kernel, by decide +kernel⟩
theorem ok_pos {f fI : Addr} {fd fdI : FuncData} (F : Fun K "is_positive" "is_positive" sPos f fd) (GI : FnOk P w K mg base CX0 2 fI fdI ["formula"] spIn) (mI : mg "formulas_in" = some (.ref fI)) (kI : PySem.W.keepIn K (.ref fI) = true) (bI : Binds K fdI ["formula"] [])
    (zAll : mg "all" = none) : FnOk P w K mg base CX0 3 f fd ["formula"] spPos := by
  refine F.ok scPos (fun vs H Q E h => ?_) (fun cdv A outer s H vs Q E hr h => ?_)
  · obtain ⟨v, g, rfl, _⟩ := h
    rfl
  · obtain ⟨v, g, rfl, at_g, sz, q⟩ := h
    refine ⟨_, pss_one (ps_ret (pe_callB (cr_all rfl) (by rfl) zAll PyProof.Rows.boot_all (pa_cons
      (pe_lc (own := [("part", 1)]) (g := gName 1) (tt := tYes) (te := tOp rNe (tOp (rIxT K) (tVar 1) (tC (.int 0))) (tC (.str "not"))) rfl scPos.nd (pi_list (pe_call GI hr rfl mI kI bI .nil pass0 (pa_cons (pv 0) pa_nil)))
        (blkOk_by (N := ["formula", "part"]) (sc := defScope sPos) (by decide +kernel)) (fun _ _ _ _ _ => pg_name (i := 1) scPos.nd rfl (.inl rfl)) (fun _ _ _ _ _ => pts_nil)
        (fun _ _ _ _ _ => pe_cmpR op_ne (pe_ix ix_tup (pv 1) pe_int (fun _ _ => rfl)) pe_str (nomark _))) pa_nil))), ?_⟩
    refine ⟨_, rfl, v, g, rfl, at_g, sz, fun H1 l us L s1 e1 aL pm => ?_⟩
    refine ⟨l, rfl, ⟨us, SqL.of e1⟩, fun D nD => ?_⟩
    have lenL := aL.length
    have lens := pm.length_eq
    refine lc_list (xs := us) (fun i Hc => Same H1 Hc ∧ Hc D = some (.lst (((L.take i).map fun y => !isNot y).map V.bl))) ⟨same_new nD, upd_same⟩ (fun i Hc _ h => SqL.of (h.1 _ _ e1)) ?_ ?_
    · rintro i x Hc hx ⟨sc, eD⟩
      obtain ⟨fx, hfx, ax⟩ := aL.get hx
      obtain ⟨a, wd, ws, rfl, e, sh⟩ := (ax.mono sc.toT).shape
      have li : i < L.length := (List.getElem?_eq_some_iff.mp hfx).1
      have tk : L.take (i + 1) = L.take i ++ [fx] := by rw [List.take_add_one, hfx]; rfl
      have val : (!decide (V.str wd = V.str "not")) = !isNot fx := by
        rcases sh with ⟨y, rfl, rfl, rfl⟩ | ⟨ps, rfl, nw, all⟩
        · show (!decide (V.str "feature" = V.str "not")) = !false
          decide +kernel
        · show (!decide (V.str wd = V.str "not")) = !decide (wd = "not")
          congr 1
          by_cases z : wd = "not"
          · rw [decide_eq_true z, decide_eq_true (by rw [z])]
          · rw [decide_eq_false z, decide_eq_false (fun t => z (V.str.inj t))]
      refine ⟨rfl, _, rfl, a, _, _, _, rfl, rfl, SqT.of e, at_zero _ _, rfl, _, eD, ?_, fun b o k => ?_, ?_⟩
      · rw [List.length_map, List.length_map, List.length_take]
        exact Nat.lt_of_le_of_lt (show min i L.length ≤ 100000 by omega) (by decide)
      · rw [upd_ne (ne_of_none k nD)]
        exact sc b o k
      · rw [upd_same, tk, List.map_append, List.map_append, val]
        rfl
    · rintro Hc ⟨sc, eD⟩
      rw [lenL, List.take_length] at eD
      refine ⟨D, _, rfl, SqL.of eD, ?_⟩
      have fin : ((L.map fun y => !isNot y).all id) = decide (nots g = 0) := by
        rw [List.all_map]
        by_cases z : nots g = 0
        · rw [decide_eq_true z, List.all_eq_true]
          intro y hy
          show (!isNot y) = true
          rw [(nots_subs g).mp z y (pm.mem_iff.mp hy)]
          rfl
        · rw [decide_eq_false z]
          refine Bool.eq_false_iff.mpr fun h => z ((nots_subs g).mpr fun y hy => ?_)
          have t : (!isNot y) = true := List.all_eq_true.mp h y (pm.mem_iff.mpr hy)
          cases hn : isNot y with
          | false => rfl
          | true => rw [hn] at t; cases t
      rw [fin]
      exact q Hc (s1.trans sc)
end
end L2.Fu
/-! ## The law's small defs -/
namespace L2.Fu
open PySem PySem.Spec PyProof.Rows
section
variable {P : Program} {w : World} {K : PySem.W.Frag} {mg : Str → Option Value} {base : Heap}
theorem scHand : FnScope ["_law_script", "_law_k", "_law_cell", "_law_great"] ["_law_script", "_law_k"] (defScope sHand) := ⟨rfl, rfl, rfl, by decide +kernel, rfl, by decide +kernel, by decide +kernel⟩
theorem ok_hand {f : Addr} {fd : FuncData} (F : Fun K "_law_hand" "_law_hand" sHand f fd) (zLen : mg "len" = none) (zAbs : mg "abs" = none) (zInt : mg "int" = none) : FnOk P w K mg base CX0 1 f fd ["_law_script", "_law_k"] (spHand K) := by
  refine F.ok scHand (fun vs H Q E h => ?_) (fun cdv A outer s H vs Q E hr h => ?_)
  · obtain ⟨a, ns, k, rfl, _⟩ := h
    rfl
  · obtain ⟨a, ns, k, rfl, hS, k0, k1, q⟩ := h
    refine ⟨_, pss_cons (ps_set (i := 2) scHand.nd rfl (.inl rfl) (pe_imp (tCell K) (pe_ifExp (pt_cmpR op_lt (pv 1) (pe_callB call_len_seq (by rfl) zLen PySem.boot_len (pa_cons (pv 0) pa_nil)) (nomark _)) (pe_ix ix_list (pv 0) (pv 1) (fun _ _ => rfl)) pe_int) ?cell))
      (pss_cons (ps_set (i := 3) scHand.nd rfl (.inl rfl) (pe_op op_mul (pe_op op_mod (pe_callB call_abs (by rfl) zAbs (by decide +kernel) (pa_cons (pv 2) pa_nil))
          (pe_op op_mulW (pe_op op_mulW (pe_op op_pow pe_int pe_int) (pe_op op_pow pe_int pe_int)) (pe_op op_pow pe_int pe_int)))
        (pe_callTy call_int1 (by rfl) zInt (by decide +kernel) (pa_cons (pe_cmpR op_ge (pe_callB call_abs (by rfl) zAbs (by decide +kernel) (pa_cons (pv 2) pa_nil)) (pe_op op_pow pe_int pe_int) (nomark _)) pa_nil))))
      (pss_one (ps_ret (pe_lst (pa_cons (pv 3) (pa_cons (pe_op op_mod (pe_op op_mul (pe_op op_add (pe_op op_add (pe_op op_mod (pv 2) pe_int) (pe_op op_mul pe_int (pv 1))) pe_int) pe_int) pe_int) (pa_cons pe_int pa_nil))))))), ?_⟩
    case cell =>
      rintro σ H1 Q1 ⟨a, ns, k, e0, e1, hs, h0, hq⟩
      refine ⟨_, e1, _, e0, a, _, rfl, .inl hs, _, _, rfl, rfl, _, rfl, ite2 (fun hc => ?_) (fun hc => hq 0)⟩
      have hlt : k < ((ns.map V.int).length : Int) := of_decide_eq_true hc
      obtain ⟨v, hv, hm⟩ := atI_in h0 hlt
      obtain ⟨c, _, rfl⟩ := List.mem_map.mp hm
      exact ⟨_, e0, _, e1, a, _, k, _, rfl, rfl, hs, hv, hq c⟩
    refine ⟨a, ns, k, rfl, rfl, hS, k0, fun cell => ?_⟩
    refine ⟨_, rfl, cell, rfl, _, _, rfl, rfl, ⟨by decide, by decide, by decide⟩, _, _, rfl, rfl, ⟨by decide, by decide, by decide⟩, _, _, rfl, rfl, wide_mul big_one big_one (by decide) (by decide) (by decide), _, _, rfl, rfl, ⟨by decide, by decide, by decide⟩,
      _, _, rfl, rfl, wide_mul big_two big_one (by decide) (by decide) (by decide), _, _, rfl, rfl, big_pos, _, rfl, cell, rfl, _, _, rfl, rfl, ⟨by decide, by decide, by decide⟩, _, _, rfl, rfl, .inr ⟨_, rfl, _, _, rfl, rfl, .inr ?_, ?_⟩⟩
    · exact bit_small _
    · refine ⟨_, rfl, _, rfl, _, _, rfl, rfl, (by show (0 : Int) < 2147483629; decide), _, rfl, _, _, rfl, rfl, .inl ⟨by decide, by decide⟩, _, _, rfl, rfl, _, _, rfl, rfl, _, _, rfl, rfl, .inr ⟨by decide, by decide⟩, _, _, rfl, rfl, (by show (0 : Int) < 2147483647; decide), (by show 3 ≤ sizeLine; decide), fun p np => ?_⟩
      exact q _ p ⟨same_new np, np, _, _, _, upd_same, Int.emod_nonneg _ (by decide), Int.emod_lt_of_pos _ (by decide), Int.le_refl _, Int.le_refl _⟩
theorem scTake : FnScope ["_law_hand_here", "_law_many", "_law_digit", "_law_prime", "_law_drawn"] ["_law_hand_here", "_law_many"] (defScope sTake) := ⟨rfl, rfl, rfl, by decide +kernel, rfl, by decide +kernel, by decide +kernel⟩
theorem ok_take {f : Addr} {fd : FuncData} (F : Fun K "_law_take" "_law_take" sTake f fd) : FnOk P w K mg base CX0 1 f fd ["_law_hand_here", "_law_many"] spTake := by
  refine F.ok scTake (fun vs H Q E h => ?_) (fun cdv A outer s H vs Q E hr h => ?_)
  · obtain ⟨H0, p, n, m, rfl, _⟩ := h
    rfl
  · obtain ⟨H0, p, n, m, rfl, m0, m1, hn, ⟨s0, z, g, a, c, e, a0, a1, c0, c1⟩, q⟩ := h
    have stays : ∀ (o : HO), Same H0 (L2.upd H p o) := fun o b u k => by
      have hb : b ≠ p := fun t => by rw [t, z] at k; cases k
      rw [upd_ne hb]
      exact s0 b u k
    refine ⟨_, pss_cons (ps_if (pt_cmpR op_gt (pe_ix ix_list (pv 0) pe_int (fun _ _ => rfl)) pe_int (nomark _))
        (pss_cons (ps_set (i := 2) scTake.nd rfl (.inl rfl) (pe_op op_mod (pe_ix ix_list (pv 0) pe_int (fun _ _ => rfl)) (pv 1)))
          (pss_cons (ps_asg (pe_op op_fdivW (pe_ix ix_list (pv 0) pe_int (fun _ _ => rfl)) (pv 1)) (pg_sub (pv 0) pe_int set_list)) (pss_one (ps_ret (pv 2))))) pss_nil)
      (pss_cons (ps_asg (pe_op op_add (pe_ix ix_list (pv 0) pe_int (fun _ _ => rfl)) pe_int) (pg_sub (pv 0) pe_int set_list))
      (pss_cons (ps_set (i := 3) scTake.nd rfl (.inl rfl) (pe_ix ix_list (pe_lst (pa_cons pe_int (pa_cons pe_int (pa_cons pe_int (pa_cons pe_int (pa_cons pe_int pa_nil)))))) (pe_op op_mod (pe_ix ix_list (pv 0) pe_int (fun _ _ => rfl)) pe_int) (fun _ _ => rfl)))
      (pss_cons (ps_set (i := 4) scTake.nd rfl (.inl rfl) (pe_op op_mod (pe_op op_pow (pe_op op_add (pe_ix ix_list (pv 0) pe_int (fun _ _ => rfl)) (pe_op op_mul pe_int (pe_ix ix_list (pv 0) pe_int (fun _ _ => rfl)))) pe_int) (pv 3)))
      (pss_one (ps_ret (pe_op op_mod (pe_op op_fdiv (pe_op op_mod (pe_op op_mul (pv 4) (pe_op op_add (pe_op op_mod (pv 4) pe_int) (pe_ix ix_list (pv 0) pe_int (fun _ _ => rfl)))) (pv 3)) pe_int) (pv 1))))))), ?_⟩
    have i0 : ∀ x y u : V, atI [x, y, u] 0 = some x := fun _ _ _ => rfl
    have i1 : ∀ x y u : V, atI [x, y, u] 1 = some y := fun _ _ _ => rfl
    have i2 : ∀ x y u : V, atI [x, y, u] 2 = some u := fun _ _ _ => rfl
    refine ⟨_, rfl, p, _, _, _, rfl, rfl, SqL.of e, i0 _ _ _, _, _, rfl, rfl, _, rfl, ite2 (fun hc => ?_) (fun hc => ?_)⟩
    · refine ⟨_, rfl, p, _, _, _, rfl, rfl, SqL.of e, i0 _ _ _, _, rfl, _, _, rfl, rfl, m0, ?_⟩
      refine ⟨_, rfl, p, _, _, _, rfl, rfl, SqL.of e, i0 _ _ _, _, rfl, _, _, rfl, rfl, wide_div m0 (b := 60) (by omega) (by decide) (by decide), _, rfl, p, _, _, 0, rfl, rfl, e, rfl, ?_⟩
      refine ⟨_, rfl, q _ _ (Int.emod_nonneg _ (by omega)) (Int.emod_lt_of_pos _ m0) ⟨stays _, z, _, a, c, upd_same, a0, a1, c0, by omega⟩⟩
    · refine ⟨_, rfl, p, _, _, _, rfl, rfl, SqL.of e, i2 _ _ _, _, _, rfl, rfl, _, rfl, p, _, _, 2, rfl, rfl, e, rfl, ?_⟩
      obtain ⟨pr, hpr, pr0, pr1⟩ := prime_at (c + 1) (by omega)
      refine ⟨(by show 5 ≤ sizeLine; decide), fun r nr => ?_⟩
      have nrp : p ≠ r := ne_of_none (upd_same (H := H) (a := p) (o := .lst [.int g, .int a, .int (c + 1)])) nr
      have e2 : L2.upd (L2.upd H p (.lst [.int g, .int a, .int (c + 1)])) r (.lst [.int 2147483647, .int 2147483629, .int 2147483587, .int 2147483579, .int 2147483563]) p = some (.lst [.int g, .int a, .int (c + 1)]) := by
        rw [upd_ne nrp, upd_same]
      refine ⟨_, rfl, p, _, _, _, rfl, rfl, SqL.of e2, i2 _ _ _, _, _, rfl, rfl, (by show (0 : Int) < 5; decide), r, _, _, _, rfl, rfl, SqL.of upd_same, hpr, ?_⟩
      refine ⟨_, rfl, p, _, _, _, rfl, rfl, SqL.of e2, i1 _ _ _, _, rfl, p, _, _, _, rfl, rfl, SqL.of e2, i2 _ _ _, _, _, rfl, rfl, .inl ⟨by decide, by decide⟩, _, _, rfl, rfl, _, _, rfl, rfl, ⟨by decide, by decide, small_pow a0 a1 c0 c1 hn⟩, _, rfl, _, _, rfl, rfl, pr0, ?_⟩
      have d0 : 0 ≤ (a + 7919 * (c + 1)) ^ (3 : Int).toNat % pr := Int.emod_nonneg _ (by omega)
      have d1 : (a + 7919 * (c + 1)) ^ (3 : Int).toNat % pr < pr := Int.emod_lt_of_pos _ pr0
      refine ⟨_, rfl, _, rfl, _, _, rfl, rfl, (by show (0 : Int) < 1009; decide), _, rfl, p, _, _, _, rfl, rfl, SqL.of e2, i2 _ _ _, _, _, rfl, rfl, _, _, rfl, rfl, .inl ⟨by omega, by omega⟩, _, rfl, _, _, rfl, rfl, pr0, _, _, rfl, rfl, ⟨by decide, by decide⟩, _, rfl, _, _, rfl, rfl, m0, ?_⟩
      refine q _ _ (Int.emod_nonneg _ (by omega)) (Int.emod_lt_of_pos _ m0) ⟨fun b u k => ?_, z, g, a, c + 1, e2, a0, a1, by omega, by omega⟩
      have k2 := stays (.lst [.int g, .int a, .int (c + 1)]) b u k
      rw [upd_ne (ne_of_none k2 nr)]
      exact k2
theorem scOf : FnScope [ofN, ofS] [ofN, ofS] (defScope sOf) := ⟨rfl, rfl, rfl, by decide +kernel, rfl, by decide +kernel, by decide +kernel⟩
theorem ok_of {f fT : Addr} {fd fdT : FuncData} (F : Fun K "_law_of" "_law_of" sOf f fd) (GT : FnOk P w K mg base CX0 1 fT fdT ["_law_hand_here", "_law_many"] spTake) (mT : mg "_law_take" = some (.ref fT)) (kT : PySem.W.keepIn K (.ref fT) = true) (bT : Binds K fdT ["_law_hand_here", "_law_many"] []) (zLen : mg "len" = none) :
    FnOk P w K mg base CX0 2 f fd [ofN, ofS] (spOf K) := by
  refine F.ok scOf (fun vs H Q E h => ?_) (fun cdv A outer s H vs Q E hr h => ?_)
  · obtain ⟨H0, p, l, n, xs, rfl, _⟩ := h
    rfl
  · obtain ⟨H0, p, l, n, xs, rfl, hS, x0, x1, hn, hh, q⟩ := h
    refine ⟨_, pss_one (ps_ret (pe_ix ix_list (pv 1) (pe_call GT hr rfl mT kT bT .nil pass0 (pa_cons (pv 0) (pa_cons (pe_callB call_len_seq (by rfl) zLen PySem.boot_len (pa_cons (pv 1) pa_nil)) pa_nil))) (fun _ _ => rfl))), ?_⟩
    have len0 : 0 < xs.length := List.length_pos_iff.mpr x0
    refine ⟨_, rfl, _, rfl, _, rfl, l, xs, rfl, .inl (hh.1.seq hS), H0, p, n, (xs.length : Int), rfl, by omega, by omega, hn, hh, fun H' d d0 d1 hh' => ?_⟩
    obtain ⟨v, hv, hm⟩ := atI_in d0 d1
    exact ⟨l, xs, d, v, rfl, rfl, hh'.1.seq hS, hv, q H' v hm hh'⟩
end
end L2.Fu
/-! ## The law's names and formulas -/
namespace L2.Fu
open PySem PySem.Spec PyProof.Rows
theorem Hand.less {H0 H1 H : Hp} {p : Addr} {n : Nat} (h : Hand H1 H p n) (s : Same H0 H1) : Hand H0 H p n := by
  obtain ⟨t, z, r⟩ := h
  exact ⟨s.trans t, s.free z, r⟩
/-- a new object is laid, and told -/
theorem Hand.lay {H0 H : Hp} {p q : Addr} {n : Nat} (o : HO) (h : Hand H0 H p n) (f : H q = none) : Hand (L2.upd H0 q o) (L2.upd H q o) p n ∧ Same H0 (L2.upd H0 q o) := ⟨h.upd (h.ne f), same_new (h.1.free f)⟩
theorem Hand.here {H0 H : Hp} {p q : Addr} {n : Nat} {o : HO} (h : Hand H0 H p n) (e : H0 q = some o) : H q = some o := h.1 _ _ e
theorem Hand.apart {H0 H : Hp} {p q : Addr} {n : Nat} {o : HO} (h : Hand H0 H p n) (e : H0 q = some o) : q ≠ p := fun z => by
  obtain ⟨_, z0, _⟩ := h
  rw [z, z0] at e
  cases e
theorem mem_erase_of {α : Type} {x : α} {xs : List α} {k : Nat} (h : x ∈ xs.eraseIdx k) : x ∈ xs := (List.eraseIdx_sublist xs k).subset h
theorem map_erase {α β : Type} (g : α → β) : ∀ (xs : List α) (k : Nat), (xs.map g).eraseIdx k = (xs.eraseIdx k).map g
  | [], _ => rfl
  | _ :: _, 0 => rfl
  | x :: xs, k + 1 => by
    show g x :: (xs.map g).eraseIdx k = g x :: (xs.eraseIdx k).map g
    rw [map_erase g xs k]
theorem ix_in {d : Int} {n : Nat} (h0 : 0 ≤ d) (h1 : d < (n : Int)) : seqIndex? d n = some d.toNat := by
  unfold seqIndex?
  have e : ¬ d < 0 := by omega
  simp only [if_neg e]
  rw [if_pos (by rw [decide_eq_true h0, decide_eq_true h1]; rfl)]
def spNames : Sp := fun vs H Q _ => ∃ (H0 : Hp) (p : Addr) (n : Nat) (c : Nat), vs = [.ref p, .int ((c : Nat) : Int)] ∧ n < 100000000 ∧ Hand H0 H p n ∧
  ∀ (H1 H' : Hp) (l : Addr) (xs : List Str), Same H0 H1 → Hand H1 H' p (n + 10) → H1 l = some (.lst (xs.map V.str)) → xs.Sublist ten → xs.length ≤ c → Q (.ref l) H'
theorem sub_ten {xs : List Str} (h : xs.Sublist ten) : (∀ x ∈ xs, x ∈ ten) ∧ xs.length ≤ 10 := ⟨fun _ m => h.subset m, h.length_le⟩
theorem Hand.same {H0 H H' : Hp} {p : Addr} {n : Nat} (h : Hand H0 H p n) (s : Same H H') : Hand H0 H' p n := by
  obtain ⟨t0, z, g, a, c, e, r⟩ := h
  exact ⟨t0.trans s, z, g, a, c, s _ _ e, r⟩
section
variable {P : Program} {w : World} {K : PySem.W.Frag} {mg : Str → Option Value} {base : Heap}
theorem scNames : FnScope ["_law_hand_here", "_law_count", "_law_left"] ["_law_hand_here", "_law_count"] (defScope sNames) := ⟨rfl, rfl, rfl, by decide +kernel, rfl, by decide +kernel, by decide +kernel⟩
theorem ok_names {f fT : Addr} {fd fdT : FuncData} (F : Fun K "_law_names" "_law_names" sNames f fd) (GT : FnOk P w K mg base CX0 1 fT fdT ["_law_hand_here", "_law_many"] spTake) (mT : mg "_law_take" = some (.ref fT)) (kT : PySem.W.keepIn K (.ref fT) = true) (bT : Binds K fdT ["_law_hand_here", "_law_many"] []) (zLen : mg "len" = none) :
    FnOk P w K mg base CX0 2 f fd ["_law_hand_here", "_law_count"] spNames := by
  refine F.ok scNames (fun vs H Q E h => ?_) (fun cdv A outer s H vs Q E hr h => ?_)
  · obtain ⟨H0, p, n, c, rfl, _⟩ := h
    rfl
  · obtain ⟨H0, p, n, c, rfl, hn, hh, q⟩ := h
    refine ⟨_, pss_cons (ps_set (i := 2) scNames.nd rfl (.inl rfl) (pe_lst (pa_cons pe_str (pa_cons pe_str (pa_cons pe_str (pa_cons pe_str (pa_cons pe_str (pa_cons pe_str (pa_cons pe_str (pa_cons pe_str (pa_cons pe_str (pa_cons pe_str pa_nil))))))))))))
      (pss_cons (ps_while PassesOwn.never (pt_cmpR op_gt (pe_callB call_len_seq (by rfl) zLen PySem.boot_len (pa_cons (pv 2) pa_nil)) (pv 1) (nomark _))
        (pss_one (ps_expr (pe_bm PySem.F.plainAttrs_list PySem.F.slot_list_pop PySem.F.type_list_pop mt_popAt (pv 2) (pa_cons (pe_call GT hr rfl mT kT bT .nil pass0 (pa_cons (pv 0) (pa_cons (pe_callB call_len_seq (by rfl) zLen PySem.boot_len (pa_cons (pv 2) pa_nil)) pa_nil))) pa_nil)))))
      (pss_one (ps_ret (pv 2)))), ?_⟩
    refine ⟨(by show 10 ≤ sizeLine; decide), fun l nl => ?_⟩
    obtain ⟨h1, s1⟩ := hh.lay (.lst (ten.map V.str)) nl
    have z0 : H0 l = none := hh.1.free nl
    dsimp only []
    refine while_set (fun σ Hc => ∃ (xs : List Str) (H1 : Hp), σ = [some (.ref p), some (.int ((c : Nat) : Int)), some (.ref l)] ∧ Same H0 H1 ∧ H1 l = some (.lst (xs.map V.str)) ∧ xs.length ≤ 10 ∧ Hand H1 Hc p (n + (10 - xs.length)) ∧ xs.Sublist ten)
      (fun σ Hc => lenAt Hc l) ?_ ?_ ?_
    · exact ⟨ten, _, rfl, s1, upd_same, by decide, h1, List.Sublist.refl _⟩
    · rintro σ Hc ⟨xs, H1, rfl, s1, e1, l1, h1, ok⟩
      have e2 := h1.here e1
      refine ⟨_, rfl, l, _, rfl, .inl (SqL.of e2), _, rfl, _, _, rfl, rfl, _, rfl, ite2 (fun hc => ?_) (fun hc => ?_)⟩
      · have hlt := of_decide_eq_true hc
        rw [List.length_map] at hlt
        refine ⟨_, rfl, .inl ⟨rfl, _, SqL.of e2⟩, _, rfl, _, rfl, l, _, rfl, .inl (SqL.of e2), H1, p, n + (10 - xs.length), ((xs.map V.str).length : Int), rfl, ?_, ?_, by omega, h1, fun H2 d d0 d1 h2 => ?_⟩
        · rw [List.length_map]; omega
        · rw [List.length_map]; omega
        · rw [List.length_map] at d1
          have e3 := h2.here e1
          have dn : d.toNat < xs.length := by omega
          refine ⟨l, xs.map V.str, d, d.toNat, .str xs[d.toNat], rfl, rfl, e3, by omega, by omega, ?_, ?_, ?_⟩
          · rw [List.length_map]; exact ix_in d0 d1
          · rw [List.getElem?_map, List.getElem?_eq_getElem dn]; rfl
          · have el : (xs.map V.str).eraseIdx d.toNat = (xs.eraseIdx d.toNat).map V.str := map_erase V.str xs d.toNat
            have ll : (xs.eraseIdx d.toNat).length = xs.length - 1 := List.length_eraseIdx_of_lt dn
            rw [el]
            refine ⟨⟨xs.eraseIdx d.toNat, upd H1 l (.lst ((xs.eraseIdx d.toNat).map V.str)), rfl, fun b o k => ?_, upd_same, by omega, (h2.upd (h1.apart e1)).mono (by omega), (List.eraseIdx_sublist xs d.toNat).trans ok⟩, ?_⟩
            · by_cases hb : b = l
              · rw [hb, z0] at k
                cases k
              · rw [upd_ne hb]
                exact s1 b o k
            · show lenAt (upd H2 l (.lst ((xs.eraseIdx d.toNat).map V.str))) l < lenAt Hc l
              rw [lenAt_of upd_same, lenAt_of e2, List.length_map, List.length_map]
              omega
      · have hge := of_decide_eq_false (Bool.eq_false_iff.mpr hc)
        rw [List.length_map] at hge
        exact ⟨_, rfl, q H1 Hc l xs s1 (h1.mono (by omega)) e1 ok (by omega)⟩
    · rintro σ Hc Q1 Q2 imp ⟨x, hx, a, ys, e, hs, y, hy, i, j, e1, e2, k, e3, hq⟩
      exact ⟨x, hx, a, ys, e, hs, y, hy, i, j, e1, e2, k, e3, imp _ _ hq⟩
end
end L2.Fu
namespace L2.Fu
open PySem PySem.Spec PyProof.Rows
theorem pt_imp {X : Cx} {e : Expr} {t : TT} (t' : TT) (p : PT X e t) (h : ∀ σ H Q, t' σ H Q → t σ H Q) : PT X e t' := ⟨fun pins s σ H Q I q => p.run pins s σ H Q I (h σ H Q q)⟩
theorem ten_lay : ∀ x ∈ ten, PyData.canLay0 (.str x) = true := by decide +kernel
theorem lay_texts : ∀ {xs : List Str}, (∀ x ∈ xs, x ∈ ten) → PyData.canLayAll0 (xs.map PyData.str) = true
  | [], _ => by simp only [List.map_nil, PyData.canLayAll0]
  | x :: xs, h => by simp only [List.map_cons, PyData.canLayAll0, ten_lay x (h x List.mem_cons_self), lay_texts (xs := xs) fun y hy => h y (List.mem_cons_of_mem _ hy), Bool.and_self]
theorem deep_texts : ∀ xs : List Str, PyData.depthAll (xs.map PyData.str) = 0
  | [] => by simp only [List.map_nil, PyData.depthAll]
  | x :: xs => by simp only [List.map_cons, PyData.depthAll, PyData.depth, deep_texts xs, Nat.max_self]
theorem shaped_texts {xs : List Str} (h : ∀ x ∈ xs, x ∈ ten) : SeqAt.shaped (.list (xs.map PyData.str)) = true := by
  simp only [SeqAt.shaped, PyData.canLay0, PyData.depth, lay_texts h, deep_texts, Bool.true_and]
  decide
theorem dp_texts {K : PySem.W.Frag} {H : Hp} : ∀ xs : List Str, DpAll K H (xs.map V.str) (xs.map PyData.str)
  | [] => .nil
  | x :: xs => .cons (.str x) (dp_texts xs)
theorem eqv_nil (xs : List Str) : PyData.eqv (.list (xs.map PyData.str)) (.list []) = xs.isEmpty := by
  cases xs with
  | nil => simp only [List.map_nil, PyData.eqv, PyData.eqvAll, List.isEmpty_nil]
  | cons x xs => simp only [List.map_cons, PyData.eqv, PyData.eqvAll, List.isEmpty_cons]
theorem head_of {v : V} (h : v ∈ [V.str "all", V.str "any"]) : ∃ x : Str, v = .str x ∧ x ∈ heads ∧ x ≠ "feature" ∧ x ≠ "not" := by
  simp only [List.mem_cons, List.not_mem_nil, or_false] at h
  rcases h with rfl | rfl
  · exact ⟨_, rfl, by decide, by decide, by decide⟩
  · exact ⟨_, rfl, by decide, by decide, by decide⟩
theorem size_of {v : V} (h : v ∈ [V.int 0, V.int 1, V.int 2, V.int 2, V.int 2, V.int 3]) : ∃ m : Nat, v = .int ((m : Nat) : Int) ∧ m ≤ 3 := by
  simp only [List.mem_cons, List.not_mem_nil, or_false] at h
  rcases h with rfl | rfl | rfl | rfl | rfl | rfl
  · exact ⟨0, rfl, by decide⟩
  · exact ⟨1, rfl, by decide⟩
  · exact ⟨2, rfl, by decide⟩
  · exact ⟨2, rfl, by decide⟩
  · exact ⟨2, rfl, by decide⟩
  · exact ⟨3, rfl, by decide⟩
theorem okAll_append : ∀ {as bs : List Fm}, OkAll as → OkAll bs → OkAll (as ++ bs)
  | [], _, _, h => h
  | a :: as, bs, h, k => by
    simp only [OkAll, List.cons_append] at h ⊢
    exact ⟨h.1, okAll_append h.2 k⟩
theorem tallAll_append : ∀ as bs : List Fm, tallAll (as ++ bs) = max (tallAll as) (tallAll bs)
  | [], bs => by simp only [tallAll, List.nil_append, Nat.zero_max]
  | a :: as, bs => by simp only [tallAll, List.cons_append, tallAll_append as bs, Nat.max_assoc]
/-- _law_formula(hand, names, depth), with n calls left -/
def spForm (n : Nat) : Sp := fun vs H Q _ => ∃ (H0 : Hp) (p l : Addr) (xs : List Str) (k d : Nat), vs = [.ref p, .ref l, .int ((d : Nat) : Int)] ∧ d + 1 ≤ n ∧ d ≤ 5 ∧ k + 3 * 4 ^ d < 100000000 ∧ Hand H0 H p k ∧ H0 l = some (.lst (xs.map V.str)) ∧ (∀ x ∈ xs, x ∈ ten) ∧ xs.length ≤ 10 ∧
  ∀ (H1 H' : Hp) (v : V) (f : Fm), Same H0 H1 → Hand H1 H' p (k + 3 * 4 ^ d) → FmAt H1 v f → Ok f → (subs f).length ≤ 4 ^ d → tall f ≤ d + 1 → Q v H'
def tWay : TE := fun σ H Q => ∃ (H0 : Hp) (p : Addr) (k d : Nat), σ[0]? = some (some (.ref p)) ∧ σ[2]? = some (some (.int ((d : Nat) : Int))) ∧ k < 1000000000 ∧ Hand H0 H p k ∧ ∀ (H' : Hp) (c : Int), 0 ≤ c → (d = 0 → c = 0) → Hand H0 H' p (k + 1) → Q (.int c) H'
def tNamed : TT := fun σ H Q => ∃ (H0 : Hp) (p l : Addr) (k : Nat) (xs : List Str) (c : Int), σ[1]? = some (some (.ref l)) ∧ σ[3]? = some (some (.int c)) ∧ Hand H0 H p k ∧ H0 l = some (.lst (xs.map V.str)) ∧ (∀ x ∈ xs, x ∈ ten) ∧ ∀ (H' : Hp) (b : Bool), Hand H0 H' p k → (b = true → xs ≠ []) → Q b H'
section
variable {P : Program} {w : World} {K : PySem.W.Frag} {mg : Str → Option Value} {base : Heap}
abbrev nForm : List Str := ["_law_hand_here", "_law_names_here", "_law_depth", "_law_way", "_law_size", "_law_part"]
theorem scForm : FnScope nForm ["_law_hand_here", "_law_names_here", "_law_depth"] (defScope sForm) := ⟨rfl, rfl, rfl, by decide +kernel, rfl, by decide +kernel, by decide +kernel⟩
theorem form_step {n : Nat} {f fT fO : Addr} {fd fdT fdO : FuncData} (F : Fun K "_law_formula" "_law_formula" sForm f fd)
    (GF : FnOk P w K mg base CX0 (n + 2) f fd ["_law_hand_here", "_law_names_here", "_law_depth"] (spForm n)) (mF : mg "_law_formula" = some (.ref f)) (kF : PySem.W.keepIn K (.ref f) = true) (bF : Binds K fd ["_law_hand_here", "_law_names_here", "_law_depth"] [])
    (GT : FnOk P w K mg base CX0 1 fT fdT ["_law_hand_here", "_law_many"] spTake) (mT : mg "_law_take" = some (.ref fT)) (kT : PySem.W.keepIn K (.ref fT) = true) (bT : Binds K fdT ["_law_hand_here", "_law_many"] [])
    (GO : FnOk P w K mg base CX0 2 fO fdO [ofN, ofS] (spOf K)) (mO : mg "_law_of" = some (.ref fO)) (kO : PySem.W.keepIn K (.ref fO) = true) (bO : Binds K fdO [ofN, ofS] [])
    (zRange : mg "range" = none) (zTup : mg "tuple" = none) : FnOk P w K mg base CX0 (n + 3) f fd ["_law_hand_here", "_law_names_here", "_law_depth"] (spForm (n + 1)) := by
  refine F.ok scForm (fun vs H Q E h => ?_) (fun cdv A outer s H vs Q E hr h => ?_)
  · obtain ⟨H0, p, l, xs, k, d, rfl, _⟩ := h
    rfl
  · obtain ⟨H0, p, l, xs, k, d, rfl, dn, d5, kd, hh, el, okx, lx, q⟩ := h
    have hr1 := hr.mono (show 1 ≤ n + 2 by omega)
    have hr2 := hr.mono (show 2 ≤ n + 2 by omega)
    refine ⟨_, pss_cons (ps_set (i := 3) scForm.nd rfl (.inl rfl) (pe_imp tWay (pe_ifExp (pt_cmpR op_gt (pv 2) pe_int (nomark _)) (pe_call GT hr1 rfl mT kT bT .nil pass0 (pa_cons (pv 0) (pa_cons pe_int pa_nil))) pe_int) ?way))
      (pss_cons (ps_if (pt_imp tNamed (PW.pt (pw_and (pt_cmpR op_lt (pv 3) pe_int (nomark _)) (pw_and1 (pt_cmpR (op_neD hr.units) (pv 1) (pe_lst pa_nil) (nomark _))))) ?named)
        (pss_one (ps_ret (pe_tup (pa_cons pe_str (pa_cons (pe_call GO hr2 rfl mO kO bO .nil pass0 (pa_cons (pv 0) (pa_cons (pv 1) pa_nil))) pa_nil))))) pss_nil)
      (pss_cons (ps_if (pt_cmpR op_eq (pv 2) pe_int (nomark _)) (pss_one (ps_ret (pe_tup (pa_cons (pe_call GO hr2 rfl mO kO bO .nil pass0 (pa_cons (pv 0) (pa_cons (pe_lst (pa_cons pe_str (pa_cons pe_str pa_nil))) pa_nil))) pa_nil)))) pss_nil)
      (pss_cons (ps_if (pt_cmpR op_lt (pv 3) pe_int (nomark _)) (pss_one (ps_ret (pe_tup (pa_cons pe_str (pa_cons (pe_call GF hr rfl mF kF bF .nil pass0 (pa_cons (pv 0) (pa_cons (pv 1) (pa_cons (pe_op op_sub (pv 2) pe_int) pa_nil)))) pa_nil))))) pss_nil)
      (pss_cons (ps_set (i := 4) scForm.nd rfl (.inl rfl) (pe_call GO hr2 rfl mO kO bO .nil pass0 (pa_cons (pv 0) (pa_cons (pe_lst (pa_cons pe_int (pa_cons pe_int (pa_cons pe_int (pa_cons pe_int (pa_cons pe_int (pa_cons pe_int pa_nil))))))) pa_nil))))
      (pss_one (ps_ret (pe_op op_catT (pe_tup (pa_cons (pe_call GO hr2 rfl mO kO bO .nil pass0 (pa_cons (pv 0) (pa_cons (pe_lst (pa_cons pe_str (pa_cons pe_str pa_nil))) pa_nil))) pa_nil))
        (pe_callTy call_tuple_of (by rfl) zTup PyProof.Rows.boot_tuple (pa_cons (pe_lc (own := [("_law_part", 5)]) (g := gName 5) (tt := tYes) (te := tCall (spForm n) [] E0 (tCons (tVar 0) (tCons (tVar 1) (tCons (tOp rSub (tVar 2) (tC (.int 1))) tNil)))) rfl scForm.nd (pi_range1 (by rfl) zRange (pa_cons (pv 4) pa_nil))
          (blkOk_by (N := nForm) (sc := defScope sForm) (by decide +kernel)) (fun _ _ _ _ _ => pg_name (i := 5) scForm.nd rfl (Or.inl rfl)) (fun _ _ _ _ _ => pts_nil)
          (fun _ _ _ _ _ => pe_call GF hr rfl mF kF bF .nil pass0 (pa_cons (pv 0) (pa_cons (pv 1) (pa_cons (pe_op op_sub (pv 2) pe_int) pa_nil))))) pa_nil))))))))), ?_⟩
    case way =>
      rintro σ H1 Q1 ⟨H0, p, k, d, e0, e2, kk, h1, hq⟩
      refine ⟨_, e2, _, _, rfl, rfl, _, rfl, ite2 (fun hc => ?_) (fun hc => ?_)⟩
      · have hd : (0 : Int) < (d : Int) := of_decide_eq_true hc
        exact ⟨_, e0, H0, p, k, 9, rfl, by decide, by decide, kk, h1, fun H' c c0 c1 h2 => hq H' c c0 (fun z => by omega) h2⟩
      · exact hq H1 0 (Int.le_refl _) (fun _ => rfl) (h1.mono (by omega))
    case named =>
      rintro σ H1 Q1 ⟨H0, p, l, k, xs, c, e1, e3, h1, el, okx, hq⟩
      refine ⟨_, e3, _, _, rfl, rfl, _, rfl, ite2 (fun hc => ?_) (fun hc => hq H1 false h1 nofun)⟩
      refine ⟨_, e1, Nat.zero_le _, fun r nr => ?_⟩
      have h2 : Hand H0 (upd H1 r (.lst [])) p k := h1.off (h1.ne nr) (h1.1.free nr)
      refine ⟨_, _, .lst (SqL.of (h2.here el)) (dp_texts xs), .lst (SqL.of upd_same) .nil, shaped_texts okx, rfl, _, rfl, ?_⟩
      rw [eqv_nil]
      exact hq _ _ h2 fun hb z => by rw [z] at hb; cases hb
    have p4 : 1 ≤ 4 ^ d := Nat.pow_le_pow_right (by decide) (Nat.zero_le d)
    refine ⟨H0, p, k, d, rfl, rfl, by omega, hh, fun Ha c c0 cd ha => ?_⟩
    refine ⟨H0, p, l, k + 1, xs, c, rfl, rfl, ha, el, okx, fun Hb b hb nb => ite2 (fun hc => ?_) (fun hc => ?_)⟩
    · have nx := nb hc
      refine ⟨_, rfl, _, rfl, H0, p, l, k + 1, xs.map V.str, rfl, SqL.of el, fun z => nx (List.map_eq_nil_iff.mp z), by rw [List.length_map]; omega, by omega, hb, fun Hc v hv h2 => ?_⟩
      obtain ⟨x, hx, rfl⟩ := List.mem_map.mp hv
      refine ⟨(by show 2 ≤ sizeLine; decide), fun t nt => ?_⟩
      obtain ⟨h3, s3⟩ := h2.lay (.tup [.str "feature", .str x]) nt
      refine q _ _ (.ref t) (.ft x) s3 (h3.mono (by omega)) (.ft upd_same) (by simp only [Ok]; exact okx x hx) (by simp only [subs]; exact p4) (by simp only [tall]; omega)
    · clear nb hc
      refine ⟨_, rfl, rfl, _, rfl, ?_⟩
      by_cases dz : d = 0
      · subst dz
        rw [decide_eq_true (by rfl)]
        refine iteT ⟨_, rfl, (by show 2 ≤ sizeLine; decide), fun r nr => ?_⟩
        obtain ⟨h2, s2⟩ := hb.lay (.lst [.str "all", .str "any"]) nr
        refine ⟨_, p, r, k + 1, [.str "all", .str "any"], rfl, SqL.of upd_same, List.cons_ne_nil _ _, by decide, by omega, h2, fun Hc v hv h3 => ?_⟩
        refine ⟨(by show 1 ≤ sizeLine; decide), fun t nt => ?_⟩
        obtain ⟨h4, s4⟩ := h3.lay (.tup [v]) nt
        obtain ⟨h, rfl, hh1, hh2, hh3⟩ := head_of hv
        exact q _ _ (.ref t) (.nd h []) (s2.trans s4) (h4.mono (by omega)) (.nd upd_same hh2 .nil) (by simp only [Ok, OkAll]; exact ⟨hh1, fun z => absurd z hh3, trivial⟩) (by simp only [subs, subsAll]; exact p4) (by simp only [tall, tallAll]; omega)
      · obtain ⟨e, rfl⟩ : ∃ e, d = e + 1 := ⟨d - 1, by omega⟩
        rw [decide_eq_false (fun z => by have := V.int.inj z; omega)]
        have p5 : 4 ^ (e + 1) = 4 * 4 ^ e := by rw [Nat.pow_succ, Nat.mul_comm]
        have p6 : 1 ≤ 4 ^ e := Nat.pow_le_pow_right (by decide) (Nat.zero_le e)
        rw [p5] at kd
        have pred : V.int (((e + 1 : Nat) : Int) - 1) = V.int ((e : Nat) : Int) := by congr 1; omega
        refine iteF ⟨_, rfl, _, _, rfl, rfl, _, rfl, ite2 (fun hc => ?_) (fun hc => ?_)⟩
        · refine ⟨_, rfl, _, rfl, _, rfl, _, _, rfl, rfl, H0, p, l, xs, k + 1, e, ?_, by omega, by omega, by omega, hb, el, okx, lx, fun H1 H2 v g s1 h1 a1 o1 z1 t1 => ?_⟩
          · exact congrArg (fun z => [V.ref p, V.ref l, z]) pred
          · refine ⟨(by show 2 ≤ sizeLine; decide), fun t nt => ?_⟩
            obtain ⟨h4, s4⟩ := h1.lay (.tup [.str "not", v]) nt
            refine q _ _ (.ref t) (.nd "not" [g]) (s1.trans s4) (h4.mono (by omega)) (.nd upd_same (by decide) (.cons (a1.mono s4.toT) .nil)) (by simp only [Ok, OkAll]; exact ⟨by decide, fun _ => rfl, o1, trivial⟩) ?_ ?_
            · simp only [subs, subsAll, List.append_nil, List.length_cons]
              omega
            · simp only [tall, tallAll]
              omega
        · clear hc
          refine ⟨_, rfl, (by show 6 ≤ sizeLine; decide), fun r nr => ?_⟩
          obtain ⟨h2, s2⟩ := hb.lay (.lst [.int 0, .int 1, .int 2, .int 2, .int 2, .int 3]) nr
          refine ⟨_, p, r, k + 1, [.int 0, .int 1, .int 2, .int 2, .int 2, .int 3], rfl, SqL.of upd_same, List.cons_ne_nil _ _, by decide, by omega, h2, fun Hc v hv h3 => ?_⟩
          obtain ⟨m, rfl, m3⟩ := size_of hv
          generalize upd H0 r (.lst [.int 0, .int 1, .int 2, .int 2, .int 2, .int 3]) = G1 at s2 h2 h3
          refine ⟨_, rfl, (by show 2 ≤ sizeLine; decide), fun r2 nr2 => ?_⟩
          obtain ⟨h4, s4⟩ := h3.lay (.lst [.str "all", .str "any"]) nr2
          refine ⟨_, p, r2, k + 2, [.str "all", .str "any"], rfl, SqL.of upd_same, List.cons_ne_nil _ _, by decide, by omega, h4, fun Hd v hv h5 => ?_⟩
          generalize upd G1 r2 (.lst [.str "all", .str "any"]) = G2 at s4 h4 h5
          obtain ⟨h, rfl, hh1, hh2, hh3⟩ := head_of hv
          refine ⟨(by show 1 ≤ sizeLine; decide), fun t nt => ?_⟩
          obtain ⟨h6, s6⟩ := h5.lay (.tup [.str h]) nt
          have e6 : upd G2 t (.tup [.str h]) t = some (.tup [.str h]) := upd_same
          have S6 := s2.trans (s4.trans s6)
          generalize upd G2 t (.tup [.str h]) = G3 at s6 h6 e6 S6
          refine ⟨_, rfl, ((m : Nat) : Int), rfl, by omega, by omega, fun D nD => ?_⟩
          obtain ⟨h7, s7⟩ := h6.lay (.lst []) nD
          have nD3 : G3 D = none := h6.1.free nD
          refine lc_range (n := ((m : Nat) : Int).toNat) (fun i Hc => ∃ (H1 : Hp) (vs : List V) (fs : List Fm), Same G3 H1 ∧ Hand H1 Hc p (k + 3 + i * (3 * 4 ^ e)) ∧ H1 D = some (.lst vs) ∧ vs.length = i ∧ FmAll H1 vs fs ∧ OkAll fs ∧ (subsAll fs).length ≤ i * 4 ^ e ∧ tallAll fs ≤ e + 1) ?_ ?_ ?_
          · refine ⟨_, [], [], s7, h7.mono (by omega), upd_same, rfl, .nil, by simp only [OkAll], by simp only [subsAll]; exact Nat.zero_le _, by simp only [tallAll]; omega⟩
          · rintro i He hi ⟨H1, vs, fs, s8, h8, e8, l8, a8, o8, z8, t8⟩
            have i3 : i * (3 * 4 ^ e) ≤ 2 * (3 * 4 ^ e) := Nat.mul_le_mul_right _ (by omega)
            refine ⟨rfl, _, rfl, _, rfl, _, rfl, _, _, rfl, rfl, H1, p, l, xs, k + 3 + i * (3 * 4 ^ e), e, ?_, by omega, by omega, by omega, h8, s8 _ _ (S6 _ _ el), okx, lx, fun H2 H3 v g s9 h9 a9 o9 z9 t9 => ?_⟩
            · exact congrArg (fun z => [V.ref p, V.ref l, z]) pred
            · have e9 := s9 _ _ e8
              refine ⟨vs, h9.here e9, ?_, upd H2 D (.lst (vs ++ [v])), vs ++ [v], fs ++ [g], fun b o kb => ?_, (h9.upd (h9.apart e9)).mono ?_, upd_same, ?_, (a8.mono (s9.toT.trans (sameT_lst e9))).append (.cons (a9.mono (sameT_lst e9)) .nil), okAll_append o8 ⟨o9, trivial⟩, ?_, ?_⟩
              · rw [l8]
                exact Nat.lt_of_lt_of_le (show i < 3 by omega) (by decide)
              · rw [upd_ne (ne_of_none kb nD3)]
                exact s9 _ _ (s8 _ _ kb)
              · rw [Nat.succ_mul i]
                omega
              · rw [List.length_append, l8]
                rfl
              · rw [subsAll_append, List.length_append, Nat.succ_mul i]
                simp only [subsAll, List.append_nil]
                omega
              · rw [tallAll_append]
                simp only [tallAll]
                omega
          · rintro He ⟨H1, vs, fs, s8, h8, e8, l8, a8, o8, z8, t8⟩
            have mm : ((m : Nat) : Int).toNat = m := by omega
            rw [mm] at h8 l8 z8
            have i3 : m * (3 * 4 ^ e) ≤ 3 * (3 * 4 ^ e) := Nat.mul_le_mul_right _ m3
            have i4 : m * 4 ^ e ≤ 3 * 4 ^ e := Nat.mul_le_mul_right _ m3
            refine ⟨D, vs, rfl, .inl ⟨SqL.of (h8.here e8), fun u nu => ?_⟩⟩
            obtain ⟨h9, s9⟩ := h8.lay (.tup vs) nu
            have et : upd H1 u (.tup vs) t = some (.tup [.str h]) := s9 _ _ (s8 _ _ e6)
            refine ⟨t, u, [.str h], vs, rfl, rfl, SqT.of (h9.here et), SqT.of upd_same, List.cons_ne_nil _ _, ?_, fun z => ?_, fun nz r nr => ?_⟩
            · rw [l8]
              exact Nat.le_trans (show 1 + m ≤ 4 by omega) (by decide)
            · subst z
              cases a8
              exact q _ _ (.ref t) (.nd h []) (S6.trans (s8.trans s9)) (h9.mono (by omega)) (.nd et hh2 .nil) (by simp only [Ok, OkAll]; exact ⟨hh1, fun z => absurd z hh3, trivial⟩) (by simp only [subs, subsAll]; exact p4) (by simp only [tall, tallAll]; omega)
            · obtain ⟨hA, sA⟩ := h9.lay (.tup ([.str h] ++ vs)) nr
              refine q _ _ (.ref r) (.nd h fs) (S6.trans (s8.trans (s9.trans sA))) (hA.mono (by omega)) (.nd upd_same hh2 (a8.mono (s9.trans sA).toT)) (by simp only [Ok]; exact ⟨hh1, fun z => absurd z hh3, o8⟩) ?_ ?_
              · simp only [subs, List.length_cons]
                omega
              · simp only [tall]
                omega
theorem form_none {f : Addr} {fd : FuncData} : FnOk P w K mg base CX0 2 f fd ["_law_hand_here", "_law_names_here", "_law_depth"] (spForm 0) := by
  have no : ∀ vs H Q E, ¬ spForm 0 vs H Q E := fun vs H Q E h => by
    obtain ⟨_, _, _, _, _, d, _, dn, _⟩ := h
    omega
  exact ⟨fun vs H Q E h => absurd h (no vs H Q E), fun A outer s H args us vs Q E _ _ _ _ h => absurd h (no vs H Q E)⟩
theorem ok_form {f fT fO : Addr} {fd fdT fdO : FuncData} (F : Fun K "_law_formula" "_law_formula" sForm f fd) (mF : mg "_law_formula" = some (.ref f)) (kF : PySem.W.keepIn K (.ref f) = true) (bF : Binds K fd ["_law_hand_here", "_law_names_here", "_law_depth"] [])
    (GT : FnOk P w K mg base CX0 1 fT fdT ["_law_hand_here", "_law_many"] spTake) (mT : mg "_law_take" = some (.ref fT)) (kT : PySem.W.keepIn K (.ref fT) = true) (bT : Binds K fdT ["_law_hand_here", "_law_many"] [])
    (GO : FnOk P w K mg base CX0 2 fO fdO [ofN, ofS] (spOf K)) (mO : mg "_law_of" = some (.ref fO)) (kO : PySem.W.keepIn K (.ref fO) = true) (bO : Binds K fdO [ofN, ofS] [])
    (zRange : mg "range" = none) (zTup : mg "tuple" = none) : ∀ n, FnOk P w K mg base CX0 (n + 2) f fd ["_law_hand_here", "_law_names_here", "_law_depth"] (spForm n)
  | 0 => form_none
  | n + 1 => form_step F (ok_form F mF kF bF GT mT kT bT GO mO kO bO zRange zTup n) mF kF bF GT mT kT bT GO mO kO bO zRange zTup
end
end L2.Fu
namespace L2.Fu
open PySem PySem.Spec PyProof.Rows
theorem shows_bool (b : Bool) {k : Nat} : Shows (.bool b) 5 k := ⟨by simp only [PyData.showable], by cases b <;> (simp only [PyData.shown]; decide), by simp only [PyData.depth]; exact Nat.zero_le _⟩
theorem shows_texts {k : Nat} : ∀ {ys : List Str}, (∀ y ∈ ys, y ∈ ten) → ShowsAll (ys.map PyData.str) (12 * ys.length) k
  | [], _ => .nil k
  | y :: ys, h => (ShowsAll.cons (shows_str (ten_short y (h y List.mem_cons_self))) (shows_texts (ys := ys) fun z hz => h z (List.mem_cons_of_mem _ hz))).more (by rw [List.length_cons]; omega) (Nat.le_refl _)
theorem shows_told {ys : List Str} (h : ∀ y ∈ ys, y ∈ ten) (l : ys.length ≤ 10) (b : Bool) : Shows (.list [.tuple (ys.map PyData.str), .bool b]) 16000000 60 :=
  (Shows.lst (.cons (Shows.tup (shows_texts (k := 0) h)) (.cons (shows_bool b (k := 1)) (.nil 1)))).more (by omega) (by decide)
theorem da_texts {H : Hp} : ∀ xs : List Str, DaAll H (xs.map V.str) (xs.map PyData.str)
  | [] => .nil
  | x :: xs => .cons (.str x) (da_texts xs)
theorem nodup_addL {l : List Str} (k : Str) (h : l.Nodup) : (addL l k).Nodup := by
  unfold addL
  split
  · exact h
  · rename_i z
    exact List.nodup_cons.mpr ⟨z, h⟩
theorem nodup_fold : ∀ (ts l : List Str), l.Nodup → (ts.foldl addL l).Nodup
  | [], l, h => h
  | t :: ts, l, h => nodup_fold ts _ (nodup_addL t h)
theorem nodup_allL (ts : List Str) : (allL ts).Nodup := nodup_fold ts [] List.nodup_nil
theorem all_true : ∀ n : Nat, (List.replicate n true).all id = true
  | 0 => rfl
  | n + 1 => by rw [List.replicate_succ, List.all_cons, all_true n]; rfl
theorem snoc_true (n : Nat) : (List.replicate n true).map V.bl ++ [V.bl true] = (List.replicate (n + 1) true).map V.bl := by
  rw [List.replicate_succ', List.map_append]
  rfl
theorem ten_up : ten.Pairwise leT := sorted_pair (by decide +kernel)
/-- texts in order, each of them of xs, which is in order: a part of xs -/
theorem sorted_sub {zs xs : List Str} (so : sortedS zs = true) (nz : zs.Nodup) (ux : xs.Pairwise leT) (nx : xs.Nodup) (h : ∀ z ∈ zs, z ∈ xs) : zs.Sublist xs := by
  have e : zs = xs.filter (fun x => decide (x ∈ zs)) := by
    refine List.Perm.eq_of_pairwise (fun _ _ _ _ a b => leT_anti a b) (sorted_pair so) (ux.sublist List.filter_sublist) (perm_of_mem nz (nx.sublist List.filter_sublist) fun x => ?_)
    rw [List.mem_filter]
    exact ⟨fun m => ⟨h x m, decide_eq_true m⟩, fun m => of_decide_eq_true m.2⟩
  rw [e]
  exact List.filter_sublist
end L2.Fu
namespace L2.Fu
open PySem PySem.Spec PyProof.Rows
theorem featsAll_append : ∀ as bs : List Fm, featsAll (as ++ bs) = featsAll as ++ featsAll bs
  | [], bs => by simp only [featsAll, List.nil_append]
  | a :: as, bs => by simp only [featsAll, List.cons_append, featsAll_append as bs, List.append_assoc]
theorem notsAll_append : ∀ as bs : List Fm, notsAll (as ++ bs) = notsAll as + notsAll bs
  | [], bs => by simp only [notsAll, List.nil_append, Nat.zero_add]
  | a :: as, bs => by simp only [notsAll, List.cons_append, notsAll_append as bs, Nat.add_assoc]
theorem tall_mem {f : Fm} : ∀ {fs : List Fm}, f ∈ fs → tall f ≤ tallAll fs
  | [], h => absurd h List.not_mem_nil
  | g :: fs, h => by
    simp only [tallAll]
    rcases List.mem_cons.mp h with rfl | h
    · exact Nat.le_max_left _ _
    · exact Nat.le_trans (tall_mem h) (Nat.le_max_right _ _)
theorem subs_mem {f : Fm} : ∀ {fs : List Fm}, f ∈ fs → (subs f).length ≤ (subsAll fs).length
  | [], h => absurd h List.not_mem_nil
  | g :: fs, h => by
    simp only [subsAll, List.length_append]
    rcases List.mem_cons.mp h with rfl | h
    · omega
    · have := subs_mem h
      omega
theorem subs_take (fs : List Fm) (i : Nat) : (subsAll (fs.take i)).length ≤ (subsAll fs).length := by
  have e := subsAll_append (fs.take i) (fs.drop i)
  rw [List.take_append_drop] at e
  rw [e, List.length_append]
  omega
theorem one_tall : ∀ f : Fm, 1 ≤ tall f
  | .ft x => by simp only [tall]; exact Nat.le_refl 1
  | .nd h ps => by simp only [tall]; omega
end L2.Fu
/-! ## Whether a formula holds -/
namespace L2.Fu
open PySem PySem.Spec PyProof.Rows
mutual
def hold (S : List Str) : Fm → Bool
  | .ft x => decide (x ∈ S)
  | .nd h ps => if h = "not" then !((holdL S ps).headD false) else if h = "all" then (holdL S ps).all id else (holdL S ps).any id
def holdL (S : List Str) : List Fm → List Bool
  | [] => []
  | p :: ps => hold S p :: holdL S ps
end
theorem holdL_len (S : List Str) : ∀ ps : List Fm, (holdL S ps).length = ps.length
  | [] => by simp only [holdL, List.length_nil]
  | p :: ps => by simp only [holdL, List.length_cons, holdL_len S ps]
theorem holdL_append (S : List Str) : ∀ as bs : List Fm, holdL S (as ++ bs) = holdL S as ++ holdL S bs
  | [], bs => by simp only [holdL, List.nil_append]
  | a :: as, bs => by simp only [holdL, List.cons_append, holdL_append S as bs]
theorem in_texts (x : Str) (S : List Str) : inV (.str x) (S.map V.str) = decide (x ∈ S) := by
  rw [Bool.eq_iff_iff, decide_eq_true_iff]
  unfold inV
  rw [List.any_eq_true]
  constructor
  · rintro ⟨y, hy, e⟩
    obtain ⟨z, hz, rfl⟩ := List.mem_map.mp hy
    have e' : (z == x) = true := e
    exact (eq_of_beq e') ▸ hz
  · intro h
    exact ⟨.str x, List.mem_map_of_mem h, (beq_self_eq_true x : (x == x) = true)⟩
theorem flat_texts : ∀ S : List Str, (S.map V.str).all flatV = true
  | [] => rfl
  | y :: S => by
    show (flatV (.str y) && (S.map V.str).all flatV) = true
    rw [flat_texts S]
    rfl
theorem hold_nd (S : List Str) (h : Str) (ps : List Fm) : hold S (.nd h ps) = if h = "not" then !((holdL S ps).headD false) else if h = "all" then (holdL S ps).all id else (holdL S ps).any id := by simp only [hold]
theorem head_not {bs : List Bool} (h : bs.length = 1) : ∃ b, bs = [b] := by
  match bs, h with
  | [b], _ => exact ⟨b, rfl⟩
/-- holds(formula, features) -/
def spHolds (n : Nat) : Sp := fun vs H Q _ => ∃ (v : V) (f : Fm) (t : Addr) (S : List Str), vs = [v, .ref t] ∧ FmAt H v f ∧ Ok f ∧ tall f ≤ n ∧ (subs f).length ≤ 100000 ∧ H t = some (.tup (S.map V.str)) ∧ ∀ H' : Hp, Same H H' → Q (.bl (hold S f)) H'
theorem spHolds_none (n : Nat) (h : n = 0) {vs : List V} {H : Hp} {Q : VK} {E : XK} : ¬ spHolds n vs H Q E := by
  rintro ⟨v, f, t, S, _, _, _, tf, _⟩
  have := one_tall f
  omega
theorem partsAll_sz {f : Fm} (z : (subs f).length ≤ 100000) : (parts f).length ≤ 100000 ∧ ∀ g ∈ parts f, (subs g).length ≤ 100000 := by
  rw [subs_parts, List.length_cons] at z
  have key : ∀ fs : List Fm, fs.length ≤ (subsAll fs).length := by
    intro fs
    induction fs with
    | nil => exact Nat.zero_le _
    | cons a fs ih =>
      simp only [subsAll, List.length_cons, List.length_append]
      have := one_subs a
      omega
  have k := key (parts f)
  exact ⟨by omega, fun g hg => by have := subs_mem hg; omega⟩
theorem okAll_mem : ∀ {ps : List Fm} {g : Fm}, OkAll ps → g ∈ ps → Ok g
  | [], _, _, h => absurd h List.not_mem_nil
  | p :: ps, g, h, m => by
    simp only [OkAll] at h
    rcases List.mem_cons.mp m with rfl | m
    · exact h.1
    · exact okAll_mem h.2 m
section
variable {P : Program} {w : World} {K : PySem.W.Frag} {mg : Str → Option Value} {base : Heap}
abbrev nHolds : List Str := ["formula", "features", "word", "answers", "part"]
theorem scHolds : FnScope nHolds ["formula", "features"] (defScope sHolds) := ⟨rfl, rfl, rfl, by decide +kernel, rfl, by decide +kernel, by decide +kernel⟩
theorem holds_step {n : Nat} {f fP : Addr} {fd fdP : FuncData} (F : Fun K "holds" "holds" sHolds f fd) (GH : FnOk P w K mg base CX0 (n + 1) f fd ["formula", "features"] (spHolds n)) (mH : mg "holds" = some (.ref f)) (kH : PySem.W.keepIn K (.ref f) = true) (bH : Binds K fd ["formula", "features"] [])
    (GP : FnOk P w K mg base CX0 1 fP fdP ["formula"] spParts) (mP : mg "parts_of" = some (.ref fP)) (kP : PySem.W.keepIn K (.ref fP) = true) (bP : Binds K fdP ["formula"] []) (zAll : mg "all" = none) (zAny : mg "any" = none) :
    FnOk P w K mg base CX0 (n + 2) f fd ["formula", "features"] (spHolds (n + 1)) := by
  refine F.ok scHolds (fun vs H Q E h => ?_) (fun cdv A outer s H vs Q E hr h => ?_)
  · obtain ⟨v, g, t, S, rfl, _⟩ := h
    rfl
  · obtain ⟨v, g, t, S, rfl, at_g, okg, tg, sz, et, q⟩ := h
    have hr1 := hr.mono (show 1 ≤ n + 1 by omega)
    refine ⟨_, pss_cons (ps_set (i := 2) scHolds.nd rfl (.inl rfl) (pe_ix ix_tup (pv 0) pe_int (fun _ _ => rfl)))
      (pss_cons (ps_if (pt_cmpR op_eq (pv 2) pe_str (nomark _)) (pss_one (ps_ret (pe_cmpR op_in_seq (pe_ix ix_tup (pv 0) pe_int (fun _ _ => rfl)) (pv 1) (by with_unfolding_all rfl)))) pss_nil)
      (pss_cons (ps_setLc (i := 3) (own := [("part", 4)]) (g := gName 4) (tt := tYes) (te := tCall (spHolds n) [] E0 (tCons (tVar 4) (tCons (tVar 1) tNil))) rfl scHolds.nd rfl rfl rfl (pi_tup (pe_call GP hr1 rfl mP kP bP .nil pass0 (pa_cons (pv 0) pa_nil)))
        (blkOk_by (N := nHolds) (sc := defScope sHolds) (by decide +kernel)) (fun _ _ _ _ _ => pg_name (i := 4) scHolds.nd rfl (Or.inl rfl)) (fun _ _ _ _ _ => pts_nil)
        (fun _ _ _ _ _ => pe_call GH hr rfl mH kH bH .nil pass0 (pa_cons (pv 4) (pa_cons (pv 1) pa_nil))))
      (pss_cons (ps_if (pt_cmpR op_eq (pv 2) pe_str (nomark _)) (pss_one (ps_ret (pe_not (pe_ix ix_list (pv 3) pe_int (fun _ _ => rfl))))) pss_nil)
      (pss_cons (ps_if (pt_cmpR op_eq (pv 2) pe_str (nomark _)) (pss_one (ps_ret (pe_callB (cr_all rfl) (by rfl) zAll PyProof.Rows.boot_all (pa_cons (pv 3) pa_nil)))) pss_nil)
      (pss_one (ps_ret (pe_callB (cr_any rfl) (by rfl) zAny PyProof.Rows.boot_any (pa_cons (pv 3) pa_nil)))))))), ?_⟩
    obtain ⟨a, wd, us, rfl, e, sh⟩ := at_g.shape
    refine ⟨_, rfl, a, _, _, _, rfl, rfl, SqT.of e, at_zero _ _, _, rfl, rfl, _, rfl, ?_⟩
    rcases sh with ⟨x, rfl, rfl, rfl⟩ | ⟨ps, rfl, nw, all⟩
    · rw [decide_eq_true rfl]
      refine iteT ⟨_, rfl, a, _, _, _, rfl, rfl, SqT.of e, at_one _ _ _, _, rfl, t, S.map V.str, rfl, .inr (SqT.of et), rfl, flat_texts S, ?_⟩
      have qq := q H (Same.refl _)
      simp only [hold] at qq
      rw [← in_texts] at qq
      exact qq
    · rw [decide_eq_false (fun z => nw (V.str.inj z))]
      obtain ⟨psz, psub⟩ := partsAll_sz sz
      have pp : parts (.nd wd ps) = ps := rfl
      rw [pp] at psz psub
      simp only [tall] at tg
      simp only [Ok] at okg
      refine iteF ⟨_, rfl, .ref a, .nd wd ps, rfl, at_g, fun H1 p1 ws s1 e1 a1 => ⟨p1, rfl, ⟨ws, SqT.of e1⟩, fun D nD => ?_⟩⟩
      rw [pp] at a1
      have lw := a1.length
      refine lc_tup (xs := ws) (fun i Hc => Same H1 Hc ∧ Hc D = some (.lst ((holdL S (ps.take i)).map V.bl))) ⟨same_new nD, by simp only [List.take_zero, holdL]; exact upd_same⟩ (fun i Hc _ h => SqT.of (h.1 _ _ e1)) ?_ ?_
      · rintro i x Hc hx ⟨sc, eD⟩
        obtain ⟨fx, hfx, ax⟩ := a1.get hx
        have mem : fx ∈ ps := List.mem_of_getElem? hfx
        have tk : ps.take (i + 1) = ps.take i ++ [fx] := by rw [List.take_add_one, hfx]; rfl
        refine ⟨rfl, _, rfl, _, rfl, x, fx, t, S, rfl, ax.mono sc.toT, okAll_mem okg.2.2 mem, by have := tall_mem mem; omega, psub fx mem, (s1.trans sc) _ _ et, fun H2 s2 => ?_⟩
        refine ⟨_, s2 _ _ eD, ?_, fun b o kb => ?_, ?_⟩
        · rw [List.length_map, holdL_len, List.length_take]
          exact Nat.lt_of_le_of_lt (show min i ps.length ≤ 100000 by omega) (by decide)
        · rw [upd_ne (ne_of_none kb nD)]
          exact s2 _ _ (sc _ _ kb)
        · rw [upd_same, tk, holdL_append, List.map_append]
          simp only [holdL]
          rfl
      · rintro Hc ⟨sc, eD⟩
        rw [lw, List.take_length] at eD
        have S1 := s1.trans sc
        have qq := q Hc S1
        rw [hold_nd] at qq
        refine ⟨_, rfl, rfl, _, rfl, ?_⟩
        by_cases hn : wd = "not"
        · subst hn
          rw [decide_eq_true rfl]
          obtain ⟨b, eb⟩ := head_not (bs := holdL S ps) (by rw [holdL_len]; exact okg.2.1 rfl)
          rw [eb] at eD qq
          exact iteT ⟨_, rfl, D, _, _, _, rfl, rfl, SqL.of eD, at_zero _ _, b, rfl, qq⟩
        · rw [decide_eq_false (fun z => hn (V.str.inj z))]
          rw [if_neg hn] at qq
          refine iteF ⟨_, rfl, rfl, _, rfl, ?_⟩
          by_cases ha : wd = "all"
          · subst ha
            rw [decide_eq_true rfl]
            exact iteT ⟨_, rfl, D, _, rfl, SqL.of eD, qq⟩
          · rw [decide_eq_false (fun z => ha (V.str.inj z))]
            rw [if_neg ha] at qq
            exact iteF ⟨_, rfl, D, _, rfl, SqL.of eD, qq⟩
theorem ok_holds {f fP : Addr} {fd fdP : FuncData} (F : Fun K "holds" "holds" sHolds f fd) (mH : mg "holds" = some (.ref f)) (kH : PySem.W.keepIn K (.ref f) = true) (bH : Binds K fd ["formula", "features"] [])
    (GP : FnOk P w K mg base CX0 1 fP fdP ["formula"] spParts) (mP : mg "parts_of" = some (.ref fP)) (kP : PySem.W.keepIn K (.ref fP) = true) (bP : Binds K fdP ["formula"] []) (zAll : mg "all" = none) (zAny : mg "any" = none) :
    ∀ n, FnOk P w K mg base CX0 (n + 1) f fd ["formula", "features"] (spHolds n)
  | 0 => ⟨fun vs H Q E h => absurd h (spHolds_none 0 rfl), fun A outer s H args us vs Q E _ _ _ _ h => absurd h (spHolds_none 0 rfl)⟩
  | n + 1 => holds_step F (ok_holds F mH kH bH GP mP kP bP zAll zAny n) mH kH bH GP mP kP bP zAll zAny
abbrev nLHolds : List Str := ["_law_formula_here", "_law_some", "_law_parts", "_law_part"]
theorem scLHolds : FnScope nLHolds ["_law_formula_here", "_law_some"] (defScope sLHolds) := ⟨rfl, rfl, rfl, by decide +kernel, rfl, by decide +kernel, by decide +kernel⟩
theorem lholds_step {n : Nat} {f : Addr} {fd : FuncData} (F : Fun K "_law_holds" "_law_holds" sLHolds f fd) (GH : FnOk P w K mg base CX0 n f fd ["_law_formula_here", "_law_some"] (spHolds n)) (mH : mg "_law_holds" = some (.ref f)) (kH : PySem.W.keepIn K (.ref f) = true) (bH : Binds K fd ["_law_formula_here", "_law_some"] [])
    (zAll : mg "all" = none) (zAny : mg "any" = none) : FnOk P w K mg base CX0 (n + 1) f fd ["_law_formula_here", "_law_some"] (spHolds (n + 1)) := by
  refine F.ok scLHolds (fun vs H Q E h => ?_) (fun cdv A outer s H vs Q E hr h => ?_)
  · obtain ⟨v, g, t, S, rfl, _⟩ := h
    rfl
  · obtain ⟨v, g, t, S, rfl, at_g, okg, tg, sz, et, q⟩ := h
    refine ⟨_, pss_cons (ps_if (pt_cmpR op_eq (pe_ix ix_tup (pv 0) pe_int (fun _ _ => rfl)) pe_str (nomark _)) (pss_one (ps_ret (pe_cmpR op_in_seq (pe_ix ix_tup (pv 0) pe_int (fun _ _ => rfl)) (pv 1) (by with_unfolding_all rfl)))) pss_nil)
      (pss_cons (ps_setLc (i := 2) (own := [("_law_part", 3)]) (g := gName 3) (tt := tYes) (te := tCall (spHolds n) [] E0 (tCons (tVar 3) (tCons (tVar 1) tNil))) rfl scLHolds.nd rfl rfl rfl (pi_tup (pe_slice sl_tup (pv 0) (po_some pe_int) po_none))
        (blkOk_by (N := nLHolds) (sc := defScope sLHolds) (by decide +kernel)) (fun _ _ _ _ _ => pg_name (i := 3) scLHolds.nd rfl (Or.inl rfl)) (fun _ _ _ _ _ => pts_nil)
        (fun _ _ _ _ _ => pe_call GH hr rfl mH kH bH .nil pass0 (pa_cons (pv 3) (pa_cons (pv 1) pa_nil))))
      (pss_cons (ps_if (pt_cmpR op_eq (pe_ix ix_tup (pv 0) pe_int (fun _ _ => rfl)) pe_str (nomark _)) (pss_one (ps_ret (pe_not (pe_ix ix_list (pv 2) pe_int (fun _ _ => rfl))))) pss_nil)
      (pss_one (ps_ret (pe_ifExp (pt_cmpR op_eq (pe_ix ix_tup (pv 0) pe_int (fun _ _ => rfl)) pe_str (nomark _)) (pe_callB (cr_all rfl) (by rfl) zAll PyProof.Rows.boot_all (pa_cons (pv 2) pa_nil)) (pe_callB (cr_any rfl) (by rfl) zAny PyProof.Rows.boot_any (pa_cons (pv 2) pa_nil))))))), ?_⟩
    obtain ⟨a, wd, us, rfl, e, sh⟩ := at_g.shape
    refine ⟨_, rfl, a, _, _, _, rfl, rfl, SqT.of e, at_zero _ _, rfl, _, rfl, ?_⟩
    rcases sh with ⟨x, rfl, rfl, rfl⟩ | ⟨ps, rfl, nw, all⟩
    · rw [decide_eq_true rfl]
      refine iteT ⟨_, rfl, a, _, _, _, rfl, rfl, SqT.of e, at_one _ _ _, _, rfl, t, S.map V.str, rfl, .inr (SqT.of et), rfl, flat_texts S, ?_⟩
      have qq := q H (Same.refl _)
      simp only [hold] at qq
      rw [← in_texts] at qq
      exact qq
    · rw [decide_eq_false (fun z => nw (V.str.inj z))]
      obtain ⟨psz, psub⟩ := partsAll_sz sz
      have pp : parts (.nd wd ps) = ps := rfl
      rw [pp] at psz psub
      simp only [tall] at tg
      simp only [Ok] at okg
      refine iteF ⟨_, rfl, _, rfl, a, _, rfl, SqT.of e, cut_not _ _, fun p1 n1 => ?_⟩
      rw [cut_one]
      have s1 := same_new (o := .tup us) n1
      have e1 : upd H p1 (.tup us) p1 = some (.tup us) := upd_same
      generalize upd H p1 (.tup us) = H1 at s1 e1
      have a1 := all.mono s1.toT
      have lw := a1.length
      refine ⟨p1, rfl, ⟨us, SqT.of e1⟩, fun D nD => ?_⟩
      refine lc_tup (xs := us) (fun i Hc => Same H1 Hc ∧ Hc D = some (.lst ((holdL S (ps.take i)).map V.bl))) ⟨same_new nD, by simp only [List.take_zero, holdL]; exact upd_same⟩ (fun i Hc _ h => SqT.of (h.1 _ _ e1)) ?_ ?_
      · rintro i x Hc hx ⟨sc, eD⟩
        obtain ⟨fx, hfx, ax⟩ := a1.get hx
        have mem : fx ∈ ps := List.mem_of_getElem? hfx
        have tk : ps.take (i + 1) = ps.take i ++ [fx] := by rw [List.take_add_one, hfx]; rfl
        refine ⟨rfl, _, rfl, _, rfl, x, fx, t, S, rfl, ax.mono sc.toT, okAll_mem okg.2.2 mem, by have := tall_mem mem; omega, psub fx mem, (s1.trans sc) _ _ et, fun H2 s2 => ?_⟩
        refine ⟨_, s2 _ _ eD, ?_, fun b o kb => ?_, ?_⟩
        · rw [List.length_map, holdL_len, List.length_take]
          exact Nat.lt_of_le_of_lt (show min i ps.length ≤ 100000 by omega) (by decide)
        · rw [upd_ne (ne_of_none kb nD)]
          exact s2 _ _ (sc _ _ kb)
        · rw [upd_same, tk, holdL_append, List.map_append]
          simp only [holdL]
          rfl
      · rintro Hc ⟨sc, eD⟩
        rw [lw, List.take_length] at eD
        have S1 := s1.trans sc
        have qq := q Hc S1
        have e2 := S1 _ _ e
        rw [hold_nd] at qq
        refine ⟨_, rfl, a, _, _, _, rfl, rfl, SqT.of e2, at_zero _ _, rfl, _, rfl, ?_⟩
        by_cases hn : wd = "not"
        · subst hn
          rw [decide_eq_true rfl]
          obtain ⟨b, eb⟩ := head_not (bs := holdL S ps) (by rw [holdL_len]; exact okg.2.1 rfl)
          rw [eb] at eD qq
          exact iteT ⟨_, rfl, D, _, _, _, rfl, rfl, SqL.of eD, at_zero _ _, b, rfl, qq⟩
        · rw [decide_eq_false (fun z => hn (V.str.inj z))]
          rw [if_neg hn] at qq
          refine iteF ⟨_, rfl, a, _, _, _, rfl, rfl, SqT.of e2, at_zero _ _, rfl, _, rfl, ?_⟩
          by_cases ha : wd = "all"
          · subst ha
            rw [decide_eq_true rfl]
            exact iteT ⟨_, rfl, D, _, rfl, SqL.of eD, qq⟩
          · rw [decide_eq_false (fun z => ha (V.str.inj z))]
            rw [if_neg ha] at qq
            exact iteF ⟨_, rfl, D, _, rfl, SqL.of eD, qq⟩
theorem ok_lholds {f : Addr} {fd : FuncData} (F : Fun K "_law_holds" "_law_holds" sLHolds f fd) (mH : mg "_law_holds" = some (.ref f)) (kH : PySem.W.keepIn K (.ref f) = true) (bH : Binds K fd ["_law_formula_here", "_law_some"] []) (zAll : mg "all" = none) (zAny : mg "any" = none) :
    ∀ n, FnOk P w K mg base CX0 n f fd ["_law_formula_here", "_law_some"] (spHolds n)
  | 0 => ⟨fun vs H Q E h => absurd h (spHolds_none 0 rfl), fun A outer s H args us vs Q E _ _ _ _ h => absurd h (spHolds_none 0 rfl)⟩
  | n + 1 => lholds_step F (ok_lholds F mH kH bH zAll zAny n) mH kH bH zAll zAny
end
end L2.Fu
/-! ## Sets of names as tuples -/
namespace L2.Fu
open PySem PySem.Spec PyProof.Rows
inductive TxAll (H : Hp) : List V → List (List Str) → Prop
  | nil : TxAll H [] []
  | cons {t : Addr} {S : List Str} {vs : List V} {Ss : List (List Str)} : H t = some (.tup (S.map V.str)) → TxAll H vs Ss → TxAll H (.ref t :: vs) (S :: Ss)
theorem TxAll.mono {H H' : Hp} (s : SameT H H') : ∀ {vs : List V} {Ss : List (List Str)}, TxAll H vs Ss → TxAll H' vs Ss
  | _, _, .nil => .nil
  | _, _, .cons e t => .cons (s _ _ e) (TxAll.mono s t)
theorem TxAll.length {H : Hp} : ∀ {vs : List V} {Ss : List (List Str)}, TxAll H vs Ss → vs.length = Ss.length
  | _, _, .nil => rfl
  | _, _, .cons _ t => by rw [List.length_cons, List.length_cons, TxAll.length t]
theorem TxAll.append {H : Hp} : ∀ {vs us : List V} {Ss Ts : List (List Str)}, TxAll H vs Ss → TxAll H us Ts → TxAll H (vs ++ us) (Ss ++ Ts)
  | _, _, _, _, .nil, s => s
  | _, _, _, _, .cons a t, s => .cons a (TxAll.append t s)
theorem TxAll.get {H : Hp} : ∀ {vs : List V} {Ss : List (List Str)} {i : Nat} {v : V}, TxAll H vs Ss → vs[i]? = some v → ∃ (t : Addr) (S : List Str), v = .ref t ∧ Ss[i]? = some S ∧ H t = some (.tup (S.map V.str))
  | _, _, _, _, .nil, e => by simp at e
  | _, _, 0, _, .cons a t, e => by simp at e; subst e; exact ⟨_, _, rfl, rfl, a⟩
  | _, _, i + 1, v, .cons a t, e => by
    obtain ⟨f, S, h1, h2, h3⟩ := TxAll.get (i := i) (v := v) t (by simpa using e)
    exact ⟨f, S, h1, by simpa using h2, h3⟩
def subs0 (xs : List Str) : List (List Str) := xs.foldl (fun acc x => acc ++ acc.map (· ++ [x])) [[]]
theorem subs0_snoc (ys : List Str) (x : Str) : subs0 (ys ++ [x]) = subs0 ys ++ (subs0 ys).map (· ++ [x]) := by
  unfold subs0
  rw [List.foldl_append]
  rfl
theorem subs0_len : ∀ n (ys : List Str), ys.length = n → (subs0 ys).length = 2 ^ n
  | 0, ys, h => by
    rw [List.eq_nil_of_length_eq_zero h]
    rfl
  | n + 1, ys, h => by
    have ne : ys ≠ [] := fun z => by rw [z] at h; cases h
    have e := (List.dropLast_concat_getLast ne).symm
    rw [e, subs0_snoc, List.length_append, List.length_map, subs0_len n ys.dropLast (by rw [List.length_dropLast, h]; rfl), Nat.pow_succ]
    omega
theorem subs0_sub : ∀ n (ys : List Str), ys.length = n → ∀ S, S ∈ subs0 ys ↔ S.Sublist ys
  | 0, ys, h, S => by
    rw [List.eq_nil_of_length_eq_zero h]
    show S ∈ [[]] ↔ _
    rw [List.mem_singleton, List.sublist_nil]
  | n + 1, ys, h, S => by
    have ne : ys ≠ [] := fun z => by rw [z] at h; cases h
    have e := (List.dropLast_concat_getLast ne).symm
    have ih := subs0_sub n ys.dropLast (by rw [List.length_dropLast, h]; rfl)
    rw [e, subs0_snoc, List.mem_append, List.mem_map]
    generalize ys.getLast ne = y at e
    constructor
    · rintro (m | ⟨T, m, rfl⟩)
      · exact ((ih S).mp m).trans (List.sublist_append_left _ _)
      · exact List.Sublist.append ((ih T).mp m) (List.Sublist.refl _)
    · intro m
      obtain ⟨l1, l2, rfl, h1, h2⟩ := List.sublist_append_iff.mp m
      rcases List.sublist_cons_iff.mp h2 with h3 | ⟨r, rfl, h3⟩
      · rw [List.sublist_nil.mp h3, List.append_nil]
        exact .inl ((ih _).mpr h1)
      · rw [List.sublist_nil.mp h3]
        exact .inr ⟨l1, (ih _).mpr h1, rfl⟩
theorem subs0_small (ys S : List Str) (h : S ∈ subs0 ys) : S.length ≤ ys.length := ((subs0_sub _ ys rfl S).mp h).length_le
/-- a while loop ahead of further statements -/
theorem while_seq {c : TT} {tb u : TS} {D : Ends} {σ : St} {H : Hp} (Pv : St → Hp → Prop) (μ : St → Hp → Nat) (h0 : Pv σ H)
    (hs : ∀ σ H, Pv σ H → c σ H fun b H1 => if b = true then tb { D with nx := fun σ' H' => Pv σ' H' ∧ μ σ' H' < μ σ H, ct := fun σ' H' => Pv σ' H' ∧ μ σ' H' < μ σ H, bk := u D } σ H1 else u D σ H1)
    (mono : ∀ σ H Q Q', (∀ b H1, Q b H1 → Q' b H1) → c σ H Q → c σ H Q') : tSeq (tWhile c tb) u D σ H :=
  while_by (D := { D with nx := u D }) Pv μ h0 hs mono
theorem erase_perm {α : Type} : ∀ (l : List α) (k : Nat) (h : k < l.length), (l[k] :: l.eraseIdx k).Perm l
  | [], k, h => absurd h (Nat.not_lt_zero k)
  | x :: l, 0, h => .refl _
  | x :: l, k + 1, h => by
    show (l[k]'(Nat.lt_of_succ_lt_succ h) :: x :: l.eraseIdx k).Perm (x :: l)
    exact (List.Perm.swap _ _ _).trans ((erase_perm l k (Nat.lt_of_succ_lt_succ h)).cons x)
def spSubs : Sp := fun vs H Q _ => ∃ (l : Addr) (xs : List Str), vs = [.ref l] ∧ H l = some (.lst (xs.map V.str)) ∧ xs.length ≤ 6 ∧ ∀ (H' : Hp) (r : Addr) (us : List V), Same H H' → H' r = some (.lst us) → TxAll H' us (subs0 xs) → Q (.ref r) H'
def spMixed : Sp := fun vs H Q _ => ∃ (H0 : Hp) (p t : Addr) (S : List Str) (n : Nat), vs = [.ref p, .ref t] ∧ H0 t = some (.tup (S.map V.str)) ∧ Hand H0 H p n ∧ (∀ x ∈ S, x ∈ ten) ∧ S.length ≤ 10 ∧ n < 100000000 ∧
  ∀ (H1 H' : Hp) (u : Addr) (S' : List Str), Same H0 H1 → Hand H1 H' p (n + 10) → H1 u = some (.tup (S'.map V.str)) → S'.Perm S → Q (.ref u) H'
section
variable {P : Program} {w : World} {K : PySem.W.Frag} {mg : Str → Option Value} {base : Heap}
abbrev nSubs : List Str := ["_law_names_here", "_law_found", "_law_name", "_law_some"]
theorem scSubs : FnScope nSubs ["_law_names_here"] (defScope sSubs) := ⟨rfl, rfl, rfl, by decide +kernel, rfl, by decide +kernel, by decide +kernel⟩
theorem ok_subs {f : Addr} {fd : FuncData} (F : Fun K "_law_subsets" "_law_subsets" sSubs f fd) : FnOk P w K mg base CX0 1 f fd ["_law_names_here"] spSubs := by
  refine F.ok scSubs (fun vs H Q E h => ?_) (fun cdv A outer s H vs Q E hr h => ?_)
  · obtain ⟨l, xs, rfl, _⟩ := h
    rfl
  · obtain ⟨l, xs, rfl, el, lx, q⟩ := h
    refine ⟨_, pss_cons (ps_set (i := 1) scSubs.nd rfl (.inl rfl) (pe_lst (pa_cons (pe_tup pa_nil) pa_nil)))
      (pss_cons (ps_for PassesOwn.never rfl (pi_list (pv 0)) (pg_name (i := 2) scSubs.nd rfl (.inr rfl))
        (pss_one (ps_set (i := 1) scSubs.nd rfl (.inl rfl) (pe_op op_cat (pv 1) (pe_lc (own := [("_law_some", 3)]) (g := gName 3) (tt := tYes) (te := tOp (rCatA K) (tVar 3) (tTup (tCons (tVar 2) tNil))) rfl scSubs.nd (pi_list (pv 1))
          (blkOk_by (N := nSubs) (sc := defScope sSubs) (by decide +kernel)) (fun _ _ _ _ _ => pg_name (i := 3) scSubs.nd rfl (Or.inl rfl)) (fun _ _ _ _ _ => pts_nil) (fun _ _ _ _ _ => pe_op op_catA (pv 3) (pe_tup (pa_cons (pv 2) pa_nil))))))))
      (pss_one (ps_ret (pv 1)))), ?_⟩
    refine ⟨Nat.zero_le _, fun t0 n0 => ⟨(by show 1 ≤ sizeLine; decide), fun r0 m0 => ?_⟩⟩
    have sA := (same_new (o := .tup []) n0).trans (same_new (o := .lst [.ref t0]) m0)
    have aA : TxAll (upd (upd H t0 (.tup [])) r0 (.lst [.ref t0])) [.ref t0] (subs0 []) := .cons (S := []) (same_new m0 _ _ upd_same) .nil
    refine ⟨_, rfl, l, rfl, ⟨_, SqL.of (sA _ _ el)⟩, ?_⟩
    refine for_list (xs := xs.map V.str) (fun i σ Hc => ∃ (r : Addr) (us : List V) (o2 o3 : Option V), σ = [some (.ref l), some (.ref r), o2, o3] ∧ Same H Hc ∧ Hc r = some (.lst us) ∧ TxAll Hc us (subs0 (xs.take i))) ?_ ?_ ?_ ?_
    · exact ⟨r0, _, none, none, rfl, sA, upd_same, aA⟩
    · rintro i σ Hc _ ⟨r, us, o2, o3, rfl, sc, _⟩
      exact SqL.of (sc _ _ el)
    · rintro i x σ Hc hx ⟨r, us, o2, o3, rfl, sc, er, ar⟩
      rw [List.getElem?_map] at hx
      cases he : xs[i]? with
      | none => rw [he] at hx; cases hx
      | some y =>
        rw [he] at hx
        cases hx
        have tk : xs.take (i + 1) = xs.take i ++ [y] := by rw [List.take_add_one, he]; rfl
        have lu := ar.length
        have l2 := subs0_len _ (xs.take i) rfl
        have l3 : (subs0 (xs.take i)).length ≤ 64 := by
          rw [l2]
          exact Nat.pow_le_pow_right (n := 2) (by decide) (show (xs.take i).length ≤ 6 by rw [List.length_take]; omega)
        refine ⟨_, rfl, _, rfl, r, rfl, ⟨us, SqL.of er⟩, fun D nD => ?_⟩
        refine lc_list (xs := us) (fun j Hd => Same Hc Hd ∧ ∃ ws, Hd D = some (.lst ws) ∧ ws.length = j ∧ TxAll Hd ws (((subs0 (xs.take i)).take j).map (· ++ [y]))) ⟨same_new nD, [], upd_same, rfl, .nil⟩ (fun j Hd _ h => SqL.of (h.1 _ _ er)) ?_ ?_
        · rintro j v Hd hv ⟨sd, ws, eD, lD, aD⟩
          obtain ⟨t, S, rfl, hS, et⟩ := ar.get hv
          have lj : j < us.length := (List.getElem?_eq_some_iff.mp hv).1
          have tS : (subs0 (xs.take i)).take (j + 1) = (subs0 (xs.take i)).take j ++ [S] := by rw [List.take_add_one, hS]; rfl
          refine ⟨rfl, _, rfl, _, rfl, (by show 1 ≤ sizeLine; decide), fun t1 n1 => ?_⟩
          have s1 := same_new (o := .tup [.str y]) n1
          have e1 : upd Hd t1 (.tup [.str y]) t1 = some (.tup [.str y]) := upd_same
          generalize upd Hd t1 (.tup [.str y]) = H1 at s1 e1
          have fin : ∀ (H2 : Hp) (t2 : Addr), Same H1 H2 → H2 t2 = some (.tup ((S ++ [y]).map V.str)) → ∃ acc, H2 D = some (.lst acc) ∧ acc.length < sizeLine ∧
              (Same Hc (upd H2 D (.lst (acc ++ [.ref t2]))) ∧ ∃ ws, upd H2 D (.lst (acc ++ [.ref t2])) D = some (.lst ws) ∧ ws.length = j + 1 ∧ TxAll (upd H2 D (.lst (acc ++ [.ref t2]))) ws (((subs0 (xs.take i)).take (j + 1)).map (· ++ [y]))) := by
            intro H2 t2 s2 e2
            have eD2 := s2 _ _ (s1 _ _ eD)
            refine ⟨ws, eD2, ?_, fun b o kb => ?_, ws ++ [.ref t2], upd_same, by rw [List.length_append, lD]; rfl, ?_⟩
            · rw [lD]
              exact Nat.lt_of_lt_of_le (show j < 64 by omega) (by decide)
            · rw [upd_ne (ne_of_none kb nD)]
              exact s2 _ _ (s1 _ _ (sd _ _ kb))
            · rw [tS, List.map_append]
              exact (aD.mono ((s1.trans s2).toT.trans (sameT_lst eD2))).append (.cons (sameT_lst eD2 _ _ e2) .nil)
          refine ⟨t, t1, S.map V.str, [.str y], rfl, rfl, SqT.of (s1 _ _ (sd _ _ et)), SqT.of e1, ?_, fun z => ?_, fun _ z => absurd z (List.cons_ne_nil _ _), fun _ _ t2 n2 => ?_⟩
          · obtain ⟨_, _, _, hq, _⟩ : ∃ (a b c : Nat), (S.map V.str).length + [V.str y].length ≤ 100 ∧ True := by
              refine ⟨0, 0, 0, ?_, trivial⟩
              have := subs0_small (xs.take i) S (List.mem_of_getElem? hS)
              rw [List.length_take] at this
              rw [List.length_map]
              show S.length + 1 ≤ 100
              omega
            exact Nat.le_trans hq (by decide)
          · have sn : S = [] := List.map_eq_nil_iff.mp z
            subst sn
            exact fin H1 t1 (Same.refl _) e1
          · refine fin _ t2 (same_new n2) ?_
            rw [upd_same, List.map_append]
            rfl
        · rintro Hd ⟨sd, ws, eD, lD, aD⟩
          rw [lu, List.take_length] at aD
          refine ⟨r, D, us, ws, rfl, rfl, sd _ _ er, eD, ?_, fun r2 n2 => ?_⟩
          · exact Nat.le_trans (show us.length + ws.length ≤ 128 by omega) (by decide)
          · refine ⟨r2, _, _, _, rfl, sc.trans (sd.trans (same_new n2)), upd_same, ?_⟩
            rw [tk, subs0_snoc]
            exact ((ar.mono sd.toT).append aD).mono (same_new n2).toT
    · rintro σ Hc ⟨r, us, o2, o3, rfl, sc, er, ar⟩
      rw [List.length_map, List.take_length] at ar
      exact ⟨_, rfl, q Hc r us sc er ar⟩
end
end L2.Fu
namespace L2.Fu
open PySem PySem.Spec PyProof.Rows
section
variable {P : Program} {w : World} {K : PySem.W.Frag} {mg : Str → Option Value} {base : Heap}
theorem scMixed : FnScope ["_law_hand_here", "_law_things", "_law_left", "_law_found"] ["_law_hand_here", "_law_things"] (defScope sMixed) := ⟨rfl, rfl, rfl, by decide +kernel, rfl, by decide +kernel, by decide +kernel⟩
theorem ok_mixed {f fT : Addr} {fd fdT : FuncData} (F : Fun K "_law_mixed" "_law_mixed" sMixed f fd) (GT : FnOk P w K mg base CX0 1 fT fdT ["_law_hand_here", "_law_many"] spTake) (mT : mg "_law_take" = some (.ref fT)) (kT : PySem.W.keepIn K (.ref fT) = true) (bT : Binds K fdT ["_law_hand_here", "_law_many"] []) (zLen : mg "len" = none) (zList : mg "list" = none) (zTup : mg "tuple" = none) :
    FnOk P w K mg base CX0 2 f fd ["_law_hand_here", "_law_things"] spMixed := by
  refine F.ok scMixed (fun vs H Q E h => ?_) (fun cdv A outer s H vs Q E hr h => ?_)
  · obtain ⟨H0, p, t, S, n, rfl, _⟩ := h
    rfl
  · obtain ⟨H0, p, t, S, n, rfl, et, hh, okS, lS, hn, q⟩ := h
    refine ⟨_, pss_cons (ps_par (i := 2) (j := 3) rfl scMixed.nd rfl rfl (by decide) rfl rfl (pa_cons (pe_callTy call_list_of (by rfl) zList PyProof.Rows.boot_list (pa_cons (pv 1) pa_nil)) (pa_cons (pe_lst pa_nil) pa_nil)) rfl)
      (pss_cons (ps_while PassesOwn.never (pt_cmpR (op_neD hr.units) (pv 2) (pe_lst pa_nil) (nomark _))
        (pss_one (ps_expr (pe_bm PySem.F.plainAttrs_list PySem.F.slot_list_append PySem.F.type_list_append mt_append (pv 3) (pa_cons
          (pe_bm PySem.F.plainAttrs_list PySem.F.slot_list_pop PySem.F.type_list_pop mt_popAt (pv 2) (pa_cons (pe_call GT hr rfl mT kT bT .nil pass0 (pa_cons (pv 0) (pa_cons (pe_callB call_len_seq (by rfl) zLen PySem.boot_len (pa_cons (pv 2) pa_nil)) pa_nil))) pa_nil)) pa_nil)))))
      (pss_one (ps_ret (pe_callTy call_tuple_of (by rfl) zTup PyProof.Rows.boot_tuple (pa_cons (pv 3) pa_nil))))), ?_⟩
    refine ⟨_, rfl, t, _, rfl, .inr (SqT.of (hh.here et)), fun l nl => ?_⟩
    obtain ⟨h1, s1⟩ := hh.lay (.lst (S.map V.str)) nl
    have e1 : upd H0 l (.lst (S.map V.str)) l = some (.lst (S.map V.str)) := upd_same
    have z1 : H0 l = none := hh.1.free nl
    generalize upd H0 l (.lst (S.map V.str)) = G1 at h1 s1 e1
    generalize upd H l (.lst (S.map V.str)) = L1 at h1 ⊢
    refine ⟨Nat.zero_le _, fun r nr => ?_⟩
    obtain ⟨h2, s2⟩ := h1.lay (.lst []) nr
    have e2 : upd G1 r (.lst []) r = some (.lst []) := upd_same
    have nlr : l ≠ r := ne_of_none (h1.here e1) nr
    have z2 : H0 r = none := s1.free (h1.1.free nr)
    have e12 := s2 _ _ e1
    have S2 := s1.trans s2
    generalize upd G1 r (.lst []) = G2 at h2 s2 e2 e12 S2
    generalize upd L1 r (.lst []) = L2 at h2 ⊢
    refine ⟨_, _, rfl, ?_⟩
    dsimp only []
    refine while_seq (fun σ Hc => ∃ (L D : List Str) (G : Hp), σ = [some (.ref p), some (.ref t), some (.ref l), some (.ref r)] ∧ Same H0 G ∧ G l = some (.lst (L.map V.str)) ∧ G r = some (.lst (D.map V.str)) ∧ Hand G Hc p (n + D.length) ∧ (D ++ L).Perm S)
      (fun σ Hc => lenAt Hc l) ?_ ?_ ?_
    · exact ⟨S, [], G2, rfl, S2, e12, e2, h2, .refl _⟩
    · rintro σ Hc ⟨L, D, G, rfl, sG, eL, eD, hG, pm⟩
      have lens := pm.length_eq
      rw [List.length_append] at lens
      have okL : ∀ x ∈ L, x ∈ ten := fun x hx => okS x (pm.mem_iff.mp (List.mem_append_right _ hx))
      refine ⟨_, rfl, Nat.zero_le _, fun k nk => ?_⟩
      have hK := hG.same (same_new (o := .lst []) nk)
      have ek : upd Hc k (.lst []) k = some (.lst []) := upd_same
      have lenL : lenAt Hc l = L.length := by rw [lenAt_of (hG.here eL), List.length_map]
      generalize upd Hc k (.lst []) = Hk at hK ek
      refine ⟨_, _, .lst (SqL.of (hK.here eL)) (dp_texts L), .lst (SqL.of ek) .nil, shaped_texts okL, rfl, _, rfl, ?_⟩
      rw [eqv_nil]
      cases L with
      | nil =>
        refine iteF ⟨_, rfl, r, _, rfl, .inl ⟨SqL.of (hK.here eD), fun u nu => ?_⟩⟩
        obtain ⟨h3, s3⟩ := hK.lay (.tup (D.map V.str)) nu
        rw [List.append_nil] at pm
        exact q _ _ u D (sG.trans s3) (h3.mono (by rw [List.length_nil] at lens; omega)) upd_same pm
      | cons x L =>
        have ll : 0 < (x :: L).length := Nat.succ_pos _
        generalize x :: L = L' at eL pm lens okL lenL ll ⊢
        have ne : (!L'.isEmpty) = true := by
          cases L' with
          | nil => exact absurd ll (Nat.lt_irrefl 0)
          | cons _ _ => rfl
        rw [ne]
        refine iteT ⟨_, rfl, .inl ⟨rfl, _, SqL.of (hK.here eD)⟩, _, rfl, .inl ⟨rfl, _, SqL.of (hK.here eL)⟩, _, rfl, _, rfl, l, _, rfl, .inl (SqL.of (hK.here eL)), G, p, n + D.length, ((L'.map V.str).length : Int), rfl, ?_, ?_, by omega, hK, fun H3 d d0 d1 h3 => ?_⟩
        · rw [List.length_map]; omega
        · rw [List.length_map]; omega
        · rw [List.length_map] at d1
          have dn : d.toNat < L'.length := by omega
          have el : (L'.map V.str).eraseIdx d.toNat = (L'.eraseIdx d.toNat).map V.str := map_erase V.str L' d.toNat
          have le : (L'.eraseIdx d.toNat).length = L'.length - 1 := List.length_eraseIdx_of_lt dn
          refine ⟨l, L'.map V.str, d, d.toNat, .str L'[d.toNat], rfl, rfl, h3.here eL, by omega, by omega, ?_, ?_, ?_⟩
          · rw [List.length_map]; exact ix_in d0 d1
          · rw [List.getElem?_map, List.getElem?_eq_getElem dn]; rfl
          · rw [el]
            have er3 : upd H3 l (.lst ((L'.eraseIdx d.toNat).map V.str)) r = some (.lst (D.map V.str)) := by rw [upd_ne (Ne.symm nlr)]; exact h3.here eD
            refine ⟨r, _, _, rfl, rfl, er3, ?_, ?_⟩
            · rw [List.length_map]
              exact Nat.lt_of_le_of_lt (show D.length ≤ 10 by omega) (by decide)
            · have h4 := (h3.upd (q := l) (o := .lst ((L'.eraseIdx d.toNat).map V.str)) (h3.apart eL)).upd (q := r) (o := .lst (D.map V.str ++ [.str L'[d.toNat]])) (h3.apart eD)
              refine ⟨⟨L'.eraseIdx d.toNat, D ++ [L'[d.toNat]], _, rfl, fun b o kb => ?_, ?_, ?_, h4.mono (by rw [List.length_append]; show n + D.length + 1 ≤ n + (D.length + 1); omega), ?_⟩, ?_⟩
              · rw [upd_ne (ne_of_none kb z2), upd_ne (ne_of_none kb z1)]
                exact sG b o kb
              · rw [upd_ne nlr, upd_same]
              · rw [upd_same, List.map_append]
                rfl
              · rw [List.append_assoc]
                exact ((erase_perm L' d.toNat dn).append_left D).trans pm
              · show lenAt _ l < lenAt Hc l
                rw [lenL, lenAt_of (xs := (L'.eraseIdx d.toNat).map V.str) (by rw [upd_ne nlr, upd_same]), List.length_map, le]
                omega
    · rintro σ Hc Q1 Q2 imp ⟨x, hx, z, h⟩
      refine ⟨x, hx, z, fun r nr => ?_⟩
      obtain ⟨d, e, a1, a2, a3, a4, k, ek, hq⟩ := h r nr
      exact ⟨d, e, a1, a2, a3, a4, k, ek, imp _ _ hq⟩
end
end L2.Fu
namespace L2.Fu
open PySem PySem.Spec PyProof.Rows
theorem for_keysT {d : Addr} {o : Obj} {kvs : List (List Key × V)} {g : TG} {tb : TS} {D : Ends} {σ : St} {H : Hp} (Pv : Nat → St → Hp → Prop) (h0 : Pv 0 σ H) (hl : ∀ i σ H, Pv i σ H → H d = some (.frz o (.dT kvs)))
    (hs : ∀ i k v q σ H, kvs[i]? = some (k, v) → H q = some (.tup (k.map kV)) → Pv i σ H → g (.ref q) σ H fun σ2 H2 => tb { D with nx := Pv (i + 1), ct := Pv (i + 1), bk := D.nx } σ2 H2) (hd : ∀ σ H, Pv kvs.length σ H → D.nx σ H) :
    ∃ W : Nat → Nat → St → Hp → Prop, (∃ m, W 0 m σ H) ∧ ∀ i m σ H, W i m σ H →
      ((Itkt d o kvs).stop i H ∧ D.nx σ H) ∨ ((Itkt d o kvs).go i H ∧ ∃ N : St → Hp → Prop, (∀ σ' H', N σ' H' → ∃ m', m' < m ∧ W (i + 1) m' σ' H') ∧ ∀ x H', (Itkt d o kvs).yld i H x H' → g x σ H' fun σ2 H2 => tb { D with nx := N, ct := N, bk := D.nx } σ2 H2) := by
  refine ⟨fun i m σ H => m + i = kvs.length ∧ Pv i σ H, ⟨kvs.length, rfl, h0⟩, ?_⟩
  rintro i m σ H ⟨hm, pv⟩
  have q := hl i σ H pv
  by_cases lt : i < kvs.length
  · refine .inr ⟨⟨q, lt⟩, Pv (i + 1), fun σ' H' p' => ⟨m - 1, by omega, by omega, p'⟩, ?_⟩
    rintro x H' ⟨rfl, k, v, a, hk, rfl, ha⟩
    exact hs i k v a σ _ hk ha pv
  · obtain rfl : i = kvs.length := by omega
    exact .inl ⟨⟨q, Nat.le_refl _⟩, hd σ H pv⟩
def rTupOf (K : PySem.W.Frag) : List V → Hp → VK → Prop := fun xs H Q => ∃ p ys, xs = [V.ref p] ∧ ((SqL K H p ys ∧ ∀ l, H l = none → Q (.ref l) (upd H l (.tup ys))) ∨ (SqT K H p ys ∧ Q (.ref p) H))
theorem call_tupOf {X : Cx} : CallR X (.type "tuple") (rTupOf X.K) := call_tuple_of
def keyOf (S : List Str) : List Key := S.map Sum.inr
theorem key_map (S : List Str) : (keyOf S).map kV = S.map V.str := by
  unfold keyOf
  rw [List.map_map]
  rfl
theorem key_inj {S T : List Str} (h : keyOf S = keyOf T) : S = T := by
  have := congrArg (List.map kV) h
  rw [key_map, key_map] at this
  exact (List.map_inj_right (fun _ _ z => V.str.inj z)).mp this
def kvsOf (f : Fm) (Ss : List (List Str)) : List (List Key × V) := Ss.map fun S => (keyOf S, V.bl (hold S f))
theorem kvs_val (f : Fm) : ∀ {Ss : List (List Str)} {S : List Str}, S ∈ Ss → valV (kvsOf f Ss) (keyOf S) = some (.bl (hold S f))
  | [], _, h => absurd h List.not_mem_nil
  | T :: Ss, S, h => by
    by_cases e : T = S
    · subst e
      show (List.find? _ ((keyOf T, V.bl (hold T f)) :: kvsOf f Ss)).map _ = _
      rw [List.find?_cons_of_pos (by exact decide_eq_true rfl)]
      rfl
    · have m : S ∈ Ss := (List.mem_cons.mp h).resolve_left fun z => e z.symm
      have ih := kvs_val f m
      show (List.find? _ ((keyOf T, V.bl (hold T f)) :: kvsOf f Ss)).map _ = _
      rw [List.find?_cons_of_neg (by intro z; exact e (key_inj (of_decide_eq_true z)))]
      exact ih
theorem kvs_put (f : Fm) {Ss : List (List Str)} {S : List Str} (h : S ∉ Ss) : putK (kvsOf f Ss) (keyOf S) (.bl (hold S f)) = kvsOf f (Ss ++ [S]) := by
  unfold putK
  rw [if_neg]
  · unfold kvsOf
    rw [List.map_append]
    rfl
  · intro z
    obtain ⟨kv, m, e⟩ := List.any_eq_true.mp z
    unfold kvsOf at m
    obtain ⟨T, mT, rfl⟩ := List.mem_map.mp m
    exact h (key_inj (of_decide_eq_true e) ▸ mT)
/-! holding depends on the features that stand in it alone -/
mutual
theorem hold_feats {S T : List Str} : ∀ f : Fm, (∀ x ∈ feats f, (x ∈ S ↔ x ∈ T)) → hold S f = hold T f
  | .ft x, h => by
    simp only [hold]
    have := h x (by simp only [feats]; exact List.mem_singleton.mpr rfl)
    by_cases k : x ∈ S
    · rw [decide_eq_true k, decide_eq_true (this.mp k)]
    · rw [decide_eq_false k, decide_eq_false (fun z => k (this.mpr z))]
  | .nd w ps, h => by
    simp only [hold]
    rw [holdL_feats ps (fun x hx => h x (by simp only [feats]; exact hx))]
theorem holdL_feats {S T : List Str} : ∀ ps : List Fm, (∀ x ∈ featsAll ps, (x ∈ S ↔ x ∈ T)) → holdL S ps = holdL T ps
  | [], _ => by simp only [holdL]
  | p :: ps, h => by
    simp only [holdL]
    rw [hold_feats p (fun x hx => h x (by simp only [featsAll]; exact List.mem_append_left _ hx)), holdL_feats ps (fun x hx => h x (by simp only [featsAll]; exact List.mem_append_right _ hx))]
end
/-! a positive formula keeps holding as features are added -/
mutual
theorem hold_up {S T : List Str} (st : ∀ x ∈ S, x ∈ T) : ∀ f : Fm, nots f = 0 → hold S f = true → hold T f = true
  | .ft x, _, h => by
    simp only [hold] at h ⊢
    exact decide_eq_true (st x (of_decide_eq_true h))
  | .nd w ps, n, h => by
    simp only [nots] at n
    have n1 : ¬ w = "not" := fun z => by rw [if_pos z] at n; omega
    have n2 : notsAll ps = 0 := by omega
    rw [hold_nd, if_neg n1] at h ⊢
    have up := holdL_up st ps n2
    by_cases a : w = "all"
    · rw [if_pos a] at h ⊢
      exact up.1 h
    · rw [if_neg a] at h ⊢
      exact up.2 h
theorem holdL_up {S T : List Str} (st : ∀ x ∈ S, x ∈ T) : ∀ ps : List Fm, notsAll ps = 0 → ((holdL S ps).all id = true → (holdL T ps).all id = true) ∧ ((holdL S ps).any id = true → (holdL T ps).any id = true)
  | [], _ => by simp only [holdL]; exact ⟨id, id⟩
  | p :: ps, n => by
    simp only [notsAll] at n
    have a := hold_up st p (by omega)
    have b := holdL_up st ps (by omega)
    simp only [holdL, List.all_cons, List.any_cons, Bool.and_eq_true, Bool.or_eq_true, id]
    exact ⟨fun h => ⟨a h.1, b.1 h.2⟩, fun h => h.elim (fun z => .inl (a z)) fun z => .inr (b.2 z)⟩
end
theorem sameT_dT {H : Hp} {l : Addr} {xs : List (List Key × V)} {o : HO} (e : H l = some (.dT xs)) : SameT H (upd H l o) := fun b zs k => by
  have ne : b ≠ l := fun z => by rw [z, e] at k; cases k
  rw [upd_ne ne]
  exact k
theorem ten_nodup : ten.Nodup := by decide +kernel
theorem subs0_nodup (xs : List Str) (h : xs.Nodup) : (subs0 xs).Nodup := by
  have key : ∀ n (ys : List Str), ys.length = n → ys.Nodup → (subs0 ys).Nodup := by
    intro n
    induction n with
    | zero =>
      intro ys hl _
      rw [List.eq_nil_of_length_eq_zero hl]
      exact List.nodup_cons.mpr ⟨List.not_mem_nil, List.nodup_nil⟩
    | succ n ih =>
      intro ys hl nd
      have ne : ys ≠ [] := fun z => by rw [z] at hl; cases hl
      have e := (List.dropLast_concat_getLast ne).symm
      have nd' := nd
      rw [e] at nd'
      obtain ⟨n1, _, n3⟩ := List.nodup_append.mp nd'
      rw [e, subs0_snoc]
      have ih' := ih ys.dropLast (by rw [List.length_dropLast, hl]; rfl) n1
      refine List.nodup_append.mpr ⟨ih', ?_, ?_⟩
      · exact List.Pairwise.map _ (fun a b hab z => hab (List.append_cancel_right z)) ih'
      · intro a ha b hb z
        obtain ⟨T, hT, rfl⟩ := List.mem_map.mp hb
        have m : ys.getLast ne ∈ ys.dropLast := ((subs0_sub _ ys.dropLast rfl a).mp ha).subset (by rw [z]; exact List.mem_append_right _ (List.mem_singleton.mpr rfl))
        exact n3 _ m _ (List.mem_singleton.mpr rfl) rfl
  exact key _ xs rfl h
def tPlus : TE := fun σ H Q => ∃ (t : Addr) (S : List Str), σ[6]? = some (some (.ref t)) ∧ H t = some (.tup (S.map V.str)) ∧ S.length ≤ 10 ∧ ∀ (H' : Hp) (q : Addr), Same H H' → H' q = some (.tup ((S ++ (["q", "w"] : List Str)).map V.str)) → Q (.ref q) H'
def tPlus1 : TE := fun σ H Q => ∃ (t : Addr) (S : List Str) (y : Str), σ[6]? = some (some (.ref t)) ∧ σ[11]? = some (some (.str y)) ∧ H t = some (.tup (S.map V.str)) ∧ S.length ≤ 10 ∧ ∀ (H' : Hp) (q : Addr), Same H H' → H' q = some (.tup ((S ++ [y]).map V.str)) → Q (.ref q) H'
theorem plus1_ok {K : PySem.W.Frag} : ∀ σ H Q, tPlus1 σ H Q → tOp (rCatA K) (tVar 6) (tTup (tCons (tVar 11) tNil)) σ H Q := by
  rintro σ H1 Q1 ⟨t, S, y, e6, e11, et, lS, hq⟩
  refine ⟨_, e6, _, e11, (by show 1 ≤ sizeLine; decide), fun q4 m4 => ?_⟩
  have s13 := same_new (o := .tup [.str y]) m4
  have e13 : upd H1 q4 (.tup [.str y]) q4 = some (.tup [.str y]) := upd_same
  generalize upd H1 q4 (.tup [.str y]) = H13 at s13 e13
  refine ⟨t, q4, S.map V.str, [.str y], rfl, rfl, SqT.of (s13 _ _ et), SqT.of e13, ?_, fun z => ?_, fun _ z => absurd z (List.cons_ne_nil _ _), fun _ _ t2 n2 => ?_⟩
  · rw [List.length_map]
    exact Nat.le_trans (show S.length + 1 ≤ 12 by omega) (by decide)
  · rw [List.map_eq_nil_iff.mp z] at hq
    exact hq _ _ s13 e13
  · refine hq _ _ (s13.trans (same_new n2)) ?_
    rw [upd_same, List.map_append]
    rfl
def tBoth : TE := fun σ H Q => ∃ (d t : Addr) (b c : Bool), σ[5]? = some (some (.ref d)) ∧ σ[6]? = some (some (.ref t)) ∧ σ[8]? = some (some (.bl c)) ∧ DGet H d (.ref t) (some (.bl b)) ∧ Q (.bl (b && c)) H
def tEither : TE := fun σ H Q => ∃ (d t : Addr) (b c : Bool), σ[5]? = some (some (.ref d)) ∧ σ[6]? = some (some (.ref t)) ∧ σ[8]? = some (some (.bl c)) ∧ DGet H d (.ref t) (some (.bl b)) ∧ Q (.bl (b || c)) H
def spRight : Sp := fun vs H Q _ => ∃ (H0 : Hp) (p l : Addr) (v u : V) (f g : Fm) (xs : List Str) (n : Nat), vs = [.ref p, v, u, .ref l] ∧ Hand H0 H p n ∧ n < 50000000 ∧ FmAt H0 v f ∧ FmAt H0 u g ∧ Ok f ∧ Ok g ∧ tall f ≤ 4 ∧ tall g ≤ 4 ∧ (subs f).length ≤ 64 ∧ (subs g).length ≤ 64 ∧ H0 l = some (.lst (xs.map V.str)) ∧ xs.Sublist ten ∧ xs.length ≤ 5 ∧
  ∀ (H1 H' : Hp), Same H0 H1 → Hand H1 H' p (n + 400) → Q (.bl true) H'
section
variable {P : Program} {w : World} {K : PySem.W.Frag} {mg : Str → Option Value} {base : Heap}
abbrev nRight : List Str := ["_law_hand_here", "_law_formula_here", "_law_other", "_law_names_here", "_law_noted", "_law_told", "_law_some", "_law_drawn", "_law_there", "_law_only", "_law_greater", "_law_name", "_law_more"]
theorem scRight : FnScope nRight ["_law_hand_here", "_law_formula_here", "_law_other", "_law_names_here"] (defScope sRight) := ⟨rfl, rfl, rfl, by decide +kernel, rfl, by decide +kernel, by decide +kernel⟩
theorem ok_right {f fS fM fH fL fX fY : Addr} {fd fdS fdM fdH fdL fdX fdY : FuncData} (F : Fun K "_law_right" "_law_right" sRight f fd)
    (GS : FnOk P w K mg base CX0 1 fS fdS ["_law_names_here"] spSubs) (mS : mg "_law_subsets" = some (.ref fS)) (kS : PySem.W.keepIn K (.ref fS) = true) (bS : Binds K fdS ["_law_names_here"] [])
    (GM : FnOk P w K mg base CX0 2 fM fdM ["_law_hand_here", "_law_things"] spMixed) (mM : mg "_law_mixed" = some (.ref fM)) (kM : PySem.W.keepIn K (.ref fM) = true) (bM : Binds K fdM ["_law_hand_here", "_law_things"] [])
    (GH : FnOk P w K mg base CX0 6 fH fdH ["formula", "features"] (spHolds 5)) (mH : mg "holds" = some (.ref fH)) (kH : PySem.W.keepIn K (.ref fH) = true) (bH : Binds K fdH ["formula", "features"] [])
    (GL : FnOk P w K mg base CX0 5 fL fdL ["_law_formula_here", "_law_some"] (spHolds 5)) (mL : mg "_law_holds" = some (.ref fL)) (kL : PySem.W.keepIn K (.ref fL) = true) (bL : Binds K fdL ["_law_formula_here", "_law_some"] [])
    (GX : FnOk P w K mg base CX0 3 fX fdX ["formula"] spFeat) (mX : mg "features_of" = some (.ref fX)) (kX : PySem.W.keepIn K (.ref fX) = true) (bX : Binds K fdX ["formula"] [])
    (GY : FnOk P w K mg base CX0 3 fY fdY ["formula"] spPos) (mY : mg "is_positive" = some (.ref fY)) (kY : PySem.W.keepIn K (.ref fY) = true) (bY : Binds K fdY ["formula"] [])
    (zTup : mg "tuple" = none) (zRepr : mg "repr" = none) (zSort : mg "sorted" = none) (zSet : mg "set" = none) (zAll : mg "all" = none) : FnG P w K mg base CX0 7 f fd ["_law_hand_here", "_law_formula_here", "_law_other", "_law_names_here"] spRight := by
  refine Fun.okG F scRight (fun vs H Q E h => ?_) (fun cdv A outer s H vs Q E gd hr h => ?_)
  · obtain ⟨H0, p, l, v, u, g1, g2, xs, n, rfl, _⟩ := h
    rfl
  · obtain ⟨H0, p, l, v, u, f1, f2, xs, n, rfl, hh, hn, a1, a2, o1, o2, t1, t2, z1, z2, el, sub, lx, q⟩ := h
    have hr1 := hr.mono (show 1 ≤ 6 by decide)
    have hr2 := hr.mono (show 2 ≤ 6 by decide)
    have hr3 := hr.mono (show 3 ≤ 6 by decide)
    have hr5 := hr.mono (show 5 ≤ 6 by decide)
    have hu := hu_of hr
    refine ⟨_, pss_cons (ps_asg (pe_tup (pa_cons (pe_callB (call_reprD gd hr.units) (by rfl) zRepr PyProof.Rows.boot_repr (pa_cons (pe_tup (pa_cons (pv 1) (pa_cons (pv 2) pa_nil))) pa_nil)) (pa_cons pe_dnewT pa_nil)))
        (pg_tup rfl (pgs_cons (pg_name (i := 4) scRight.nd rfl (.inl rfl)) (pgs_cons (pg_name (i := 5) scRight.nd rfl (.inr rfl)) pgs_nil))))
      (pss_cons (ps_for PassesOwn.never rfl (pi_list (pe_call GS hr1 rfl mS kS bS .nil pass0 (pa_cons (pv 3) pa_nil))) (pg_name (i := 6) scRight.nd rfl (.inr rfl))
        (pss_cons (ps_set (i := 7) scRight.nd rfl (.inl rfl) (pe_call GM hr2 rfl mM kM bM .nil pass0 (pa_cons (pv 0) (pa_cons (pv 6) pa_nil))))
        (pss_cons (ps_dput hu (pv 5) (pv 6) (pe_call GH hr rfl mH kH bH .nil pass0 (pa_cons (pv 1) (pa_cons (pv 7) pa_nil))) rfl)
        (pss_cons (ps_if (pt_cmpR op_ne (pe_callB (call_reprD gd hr.units) (by rfl) zRepr PyProof.Rows.boot_repr (pa_cons (pe_dget hu (pv 5) (pv 6) (fun _ _ => rfl)) pa_nil)) (pe_callB (call_reprD gd hr.units) (by rfl) zRepr PyProof.Rows.boot_repr (pa_cons (pe_call GL hr5 rfl mL kL bL .nil pass0 (pa_cons (pv 1) (pa_cons (pv 6) pa_nil))) pa_nil)) (nomark _)) (pss_one (ps_ret pe_bl)) pss_nil)
        (pss_cons (ps_if (pt_cmpR op_ne (pe_callB (call_reprD gd hr.units) (by rfl) zRepr PyProof.Rows.boot_repr (pa_cons (pe_call GH hr rfl mH kH bH .nil pass0 (pa_cons (pe_tup (pa_cons pe_str (pa_cons (pv 1) pa_nil))) (pa_cons (pv 6) pa_nil))) pa_nil)) (pe_callB (call_reprD gd hr.units) (by rfl) zRepr PyProof.Rows.boot_repr (pa_cons (pe_not (pe_dget hu (pv 5) (pv 6) (fun _ _ => rfl))) pa_nil)) (nomark _)) (pss_one (ps_ret pe_bl)) pss_nil)
        (pss_cons (ps_set (i := 8) scRight.nd rfl (.inl rfl) (pe_call GH hr rfl mH kH bH .nil pass0 (pa_cons (pv 2) (pa_cons (pv 7) pa_nil))))
        (pss_cons (ps_if (pt_cmpR op_ne (pe_call GH hr rfl mH kH bH .nil pass0 (pa_cons (pe_tup (pa_cons pe_str (pa_cons (pv 1) (pa_cons (pv 2) pa_nil)))) (pa_cons (pv 6) pa_nil))) (pe_imp tBoth (pe_and (pe_dget hu (pv 5) (pv 6) (fun _ _ => rfl)) (pe_one (pv 8))) ?both) (nomark _)) (pss_one (ps_ret pe_bl)) pss_nil)
        (pss_cons (ps_if (pt_cmpR op_ne (pe_call GH hr rfl mH kH bH .nil pass0 (pa_cons (pe_tup (pa_cons pe_str (pa_cons (pv 2) (pa_cons (pv 1) pa_nil)))) (pa_cons (pv 6) pa_nil))) (pe_imp tEither (pe_or (pe_dget hu (pv 5) (pv 6) (fun _ _ => rfl)) (pe_one (pv 8))) ?either) (nomark _)) (pss_one (ps_ret pe_bl)) pss_nil)
        (pss_cons (ps_if (pt_cmpR op_ne (pe_call GH hr rfl mH kH bH .nil pass0 (pa_cons (pv 1) (pa_cons (pe_imp tPlus (pe_op op_catA (pv 6) (pe_tup (pa_cons pe_str (pa_cons pe_str pa_nil)))) ?plus) pa_nil))) (pe_dget hu (pv 5) (pv 6) (fun _ _ => rfl)) (nomark _)) (pss_one (ps_ret pe_bl)) pss_nil)
        (pss_cons (ps_set (i := 9) scRight.nd rfl (.inl rfl) (pe_callTy call_tuple_of (by rfl) zTup PyProof.Rows.boot_tuple (pa_cons
          (pe_lc (own := [("_law_name", 11)]) (g := gName 11) (tt := tTest (tOp (rIn K false) (tVar 11) (tCall spFeat [] E0 (tCons (tVar 1) tNil)))) (te := tVar 11) rfl scRight.nd (pi_tup (pv 6)) (blkOk_by (N := nRight) (sc := defScope sRight) (by decide +kernel)) (fun _ _ _ _ _ => pg_name (i := 11) scRight.nd rfl (Or.inl rfl))
            (fun _ _ _ _ _ => pts_one (pt_cmpR op_in_seq (pv 11) (pe_call GX hr3 rfl mX kX bX .nil pass0 (pa_cons (pv 1) pa_nil)) (by with_unfolding_all rfl))) (fun _ _ _ _ _ => pv 11)) pa_nil)))
        (pss_one (ps_if (pt_cmpR op_ne (pe_call GH hr rfl mH kH bH .nil pass0 (pa_cons (pv 1) (pa_cons (pv 9) pa_nil))) (pe_dget hu (pv 5) (pv 6) (fun _ _ => rfl)) (nomark _)) (pss_one (ps_ret pe_bl)) pss_nil))))))))))))
      (pss_cons (ps_if (pt_val (pe_call GY hr3 rfl mY kY bY .nil pass0 (pa_cons (pv 1) pa_nil)))
        (pss_one (ps_lock (ps_for PassesOwn.never rfl (pi_keys (pv 5)) (pg_name (i := 6) scRight.nd rfl (.inr rfl))
          (pss_cons (ps_setLc (i := 10) (own := [("_law_name", 11)]) (g := gName 11) (tt := tYes) (te := tCB (rTupOf K) (tCons (tCB (rSortT P w) (tCons (tCB (rSetOfT K P w) (tCons tPlus1 tNil)) tNil)) tNil)) rfl scRight.nd rfl rfl rfl (pi_list (pv 3)) (blkOk_by (N := nRight) (sc := defScope sRight) (by decide +kernel)) (fun _ _ _ _ _ => pg_name (i := 11) scRight.nd rfl (Or.inl rfl)) (fun _ _ _ _ _ => pts_nil)
              (fun _ _ _ _ _ => pe_callTy call_tupOf (by rfl) zTup PyProof.Rows.boot_tuple (pa_cons (pe_callB (cr_sortT rfl) (by rfl) zSort PyProof.Rows.boot_sorted (pa_cons (pe_callTy (cr_setOfT rfl) (by rfl) zSet (by decide +kernel) (pa_cons (pe_imp tPlus1 (pe_op op_catA (pv 6) (pe_tup (pa_cons (pv 11) pa_nil))) plus1_ok) pa_nil)) pa_nil)) pa_nil)))
          (pss_one (ps_if (PW.pt (pw_and (pt_val (pe_dget hu (pv 5) (pv 6) (fun _ _ => rfl))) (pw_and1 (pt_not (pt_val (pe_callB (cr_all rfl) (by rfl) zAll PyProof.Rows.boot_all (pa_cons
            (pe_lc (own := [("_law_more", 12)]) (g := gName 12) (tt := tYes) (te := tDGet (tVar 5) (tVar 12)) rfl scRight.nd (pi_list (pv 10)) (blkOk_by (N := nRight) (sc := defScope sRight) (by decide +kernel)) (fun _ _ _ _ _ => pg_name (i := 12) scRight.nd rfl (Or.inl rfl)) (fun _ _ _ _ _ => pts_nil) (fun _ _ _ _ _ => pe_dget hu (pv 5) (pv 12) (fun _ _ => rfl))) pa_nil))))))) (pss_one (ps_ret pe_bl)) pss_nil)))))) pss_nil)
      (pss_one (ps_ret (pe_cmpR op_eq (pe_callB (call_reprD gd hr.units) (by rfl) zRepr PyProof.Rows.boot_repr (pa_cons (pe_tup (pa_cons (pv 1) (pa_cons (pv 2) pa_nil))) pa_nil)) (pv 4) (nomark _)))))), ?_⟩
    case both =>
      rintro σ H1 Q1 ⟨d, t, b, c, e5, e6, e8, g, hq⟩
      refine ⟨_, e5, _, e6, d, _, rfl, g, _, rfl, ?_⟩
      cases b with
      | true => exact iteT ⟨_, e8, hq⟩
      | false => exact iteF hq
    case either =>
      rintro σ H1 Q1 ⟨d, t, b, c, e5, e6, e8, g, hq⟩
      refine ⟨_, e5, _, e6, d, _, rfl, g, _, rfl, ?_⟩
      cases b with
      | true => exact iteT hq
      | false => exact iteF ⟨_, e8, hq⟩
    case plus =>
      rintro σ H1 Q1 ⟨t, S, e6, et, lS, hq⟩
      refine ⟨_, e6, (by show 2 ≤ sizeLine; decide), fun q4 m4 => ?_⟩
      have s13 := same_new (o := .tup [.str "q", .str "w"]) m4
      have e13 : upd H1 q4 (.tup [.str "q", .str "w"]) q4 = some (.tup [.str "q", .str "w"]) := upd_same
      generalize upd H1 q4 (.tup [.str "q", .str "w"]) = H13 at s13 e13
      refine ⟨t, q4, S.map V.str, [.str "q", .str "w"], rfl, rfl, SqT.of (s13 _ _ et), SqT.of e13, ?_, fun z => ?_, fun _ z => absurd z (List.cons_ne_nil _ _), fun _ _ t2 n2 => ?_⟩
      · rw [List.length_map]
        exact Nat.le_trans (show S.length + 2 ≤ 12 by omega) (by decide)
      · rw [List.map_eq_nil_iff.mp z] at hq
        exact hq _ _ s13 e13
      · refine hq _ _ (s13.trans (same_new n2)) ?_
        rw [upd_same, List.map_append]
        rfl
    have sB : ∀ b : Bool, Shows (.bool b) 16000000 60 := fun b => (shows_bool b (k := 0)).more (by decide) (by decide)
    have sFF : Shows (.tuple [datOf f1, datOf f2]) 16000000 60 := by
      have x1 := (shows_fm f1 o1).more (n' := 3000) (k' := 4) (by omega) t1
      have x2 := (shows_fm f2 o2).more (n' := 3000) (k' := 4) (by omega) t2
      exact (Shows.tup (.cons x1 (.cons x2 (.nil 4)))).more (by decide) (by decide)
    obtain ⟨okx, _⟩ := sub_ten sub
    refine ⟨_, rfl, _, rfl, (by show 2 ≤ sizeLine; decide), fun t0 n0 => ?_⟩
    have S1 := same_new (o := .tup [v, u]) n0
    have e0 : upd H t0 (.tup [v, u]) t0 = some (.tup [v, u]) := upd_same
    generalize upd H t0 (.tup [v, u]) = Ha at S1 e0
    have D1 : ∀ H', Same Ha H' → DaAll H' [v, u] [datOf f1, datOf f2] := fun H' s => .cons (a1.mono (hh.1.trans (S1.trans s)).toT).da (.cons (a2.mono (hh.1.trans (S1.trans s)).toT).da .nil)
    refine ⟨.ref t0, _, rfl, .tup e0 (D1 _ (Same.refl _)), sFF, fun d nd => ?_⟩
    have S2 := same_new (o := .dT []) nd
    have e2 : upd Ha d (.dT []) d = some (.dT []) := upd_same
    have zd : H0 d = none := (hh.1.trans S1).free nd
    generalize upd Ha d (.dT []) = Hb at S2 e2
    refine ⟨(by show 2 ≤ sizeLine; decide), fun t3 n3 => ?_⟩
    have S3 := same_new (o := .tup [.str (PyData.tuple [datOf f1, datOf f2]).shown, .ref d]) n3
    have e3 : upd Hb t3 (.tup [.str (PyData.tuple [datOf f1, datOf f2]).shown, .ref d]) t3 = some (.tup [.str (PyData.tuple [datOf f1, datOf f2]).shown, .ref d]) := upd_same
    generalize upd Hb t3 (.tup [.str (PyData.tuple [datOf f1, datOf f2]).shown, .ref d]) = Hc at S3 e3
    refine ⟨t3, _, rfl, SqT.of e3, rfl, _, _, rfl, _, _, rfl, rfl, ?_⟩
    have ed := S3 _ _ e2
    refine ⟨_, rfl, l, xs, rfl, (S1.trans (S2.trans S3)) _ _ (hh.here el), by omega, fun H5 r us s5 er aU => ⟨r, rfl, ⟨us, SqL.of er⟩, ?_⟩⟩
    have h5 : Hand H0 H5 p n := hh.same (S1.trans (S2.trans (S3.trans s5)))
    have nodup : (subs0 xs).Nodup := subs0_nodup xs (sub.nodup ten_nodup)
    have lSs : (subs0 xs).length ≤ 32 := by
      rw [subs0_len _ xs rfl]
      exact Nat.pow_le_pow_right (n := 2) (by decide) lx
    have lU := aU.length
    refine for_list (xs := us) (fun i σ Hx => ∃ (G : Hp) (o6 o7 o8 o9 o10 o11 o12 : Option V), σ = [some (.ref p), some v, some u, some (.ref l), some (.str (PyData.tuple [datOf f1, datOf f2]).shown), some (.ref d), o6, o7, o8, o9, o10, o11, o12] ∧ Same H0 G ∧ Hand G Hx p (n + 10 * i) ∧
      G d = some (.dT (kvsOf f1 ((subs0 xs).take i))) ∧ G r = some (.lst us) ∧ TxAll G us (subs0 xs)) ?_ ?_ ?_ ?_
    · obtain ⟨xp, ep⟩ := h5.at
      have nd5 : d ≠ p := fun z => by rw [← z, s5 _ _ ed] at ep; cases ep
      have nr5 : r ≠ p := fun z => by
        obtain ⟨_, _, g0, a0, c0, e0, _⟩ := id h5
        rw [z, e0] at er
        cases er
        cases aU
      refine ⟨delH H5 p, none, none, none, none, none, none, none, rfl, same_del h5.1 h5.2.1, h5.full, by rw [delH_ne nd5]; exact s5 _ _ ed, by rw [delH_ne nr5]; exact er, aU.mono fun b zs k => ?_⟩
      have hb : b ≠ p := fun z => by rw [z, ep] at k; cases k
      rw [delH_ne hb]
      exact k
    · rintro i σ Hx _ ⟨G, o6, o7, o8, o9, o10, o11, o12, rfl, sG, hG, eG, rG, aG⟩
      exact SqL.of (hG.here rG)
    · rintro i x σ Hx hx ⟨G, o6, o7, o8, o9, o10, o11, o12, rfl, sG, hG, eG, rG, aG⟩
      obtain ⟨t, S, rfl, hS, et⟩ := aG.get hx
      have li : i < (subs0 xs).length := (List.getElem?_eq_some_iff.mp hS).1
      have memS : S ∈ subs0 xs := List.mem_of_getElem? hS
      have subS : S.Sublist xs := (subs0_sub _ xs rfl S).mp memS
      have okS : ∀ x ∈ S, x ∈ ten := fun x hx => okx x (subS.subset hx)
      have lS := subS.length_le
      have tk : (subs0 xs).take (i + 1) = (subs0 xs).take i ++ [S] := by rw [List.take_add_one, hS]; rfl
      have fresh : S ∉ (subs0 xs).take i := by
        have nd2 := nodup
        rw [← List.take_append_drop (i + 1) (subs0 xs), tk] at nd2
        obtain ⟨n1, _, _⟩ := List.nodup_append.mp nd2
        obtain ⟨_, _, n3⟩ := List.nodup_append.mp n1
        exact fun m => n3 S m S (List.mem_singleton.mpr rfl) rfl
      refine ⟨_, rfl, _, rfl, G, p, t, S, n + 10 * i, rfl, et, hG, okS, by omega, by omega, fun G1 H1 u1 S1 s1 h1 e1 pm => ?_⟩
      have e11 : hold S1 f1 = hold S f1 := hold_feats f1 fun x _ => pm.mem_iff
      have e12 : hold S1 f2 = hold S f2 := hold_feats f2 fun x _ => pm.mem_iff
      have A1 := a1.mono (sG.trans s1).toT
      have A2 := a2.mono (sG.trans s1).toT
      refine ⟨_, rfl, _, rfl, v, f1, u1, S1, rfl, A1.mono h1.1.toT, o1, by omega, by omega, h1.here e1, fun H2 s2 => ?_⟩
      rw [e11]
      have h2 := h1.same s2
      have ed1 := s1 _ _ eG
      have et1 := s1 _ _ et
      refine ⟨_, rfl, _, rfl, d, _, rfl, DPut.t (k := keyOf S) (h2.here ed1) (by rw [key_map]; exact h2.here et1) ?_, ?_⟩
      · unfold kvsOf
        rw [List.length_map, List.length_take]
        exact Nat.lt_of_le_of_lt (show min i (subs0 xs).length ≤ 32 by omega) (by decide)
      rw [kvs_put f1 fresh, ← tk]
      have mem : S ∈ (subs0 xs).take (i + 1) := by rw [tk]; exact List.mem_append_right _ (List.mem_singleton.mpr rfl)
      have h3 := h2.upd (q := d) (o := .dT (kvsOf f1 ((subs0 xs).take (i + 1)))) (h2.apart ed1)
      have T3 : SameT G1 (upd G1 d (.dT (kvsOf f1 ((subs0 xs).take (i + 1))))) := sameT_dT ed1
      have ed3 : upd G1 d (.dT (kvsOf f1 ((subs0 xs).take (i + 1)))) d = some (.dT (kvsOf f1 ((subs0 xs).take (i + 1)))) := upd_same
      have S03 : Same H0 (upd G1 d (.dT (kvsOf f1 ((subs0 xs).take (i + 1))))) := fun b o kb => by
        rw [upd_ne (ne_of_none kb zd)]
        exact s1 _ _ (sG _ _ kb)
      have ndr : r ≠ d := fun z => by rw [z, eG] at rG; cases rG
      have er3 : upd G1 d (.dT (kvsOf f1 ((subs0 xs).take (i + 1)))) r = some (.lst us) := by rw [upd_ne ndr]; exact s1 _ _ rG
      have aU3 := (aG.mono s1.toT).mono T3
      have B1 := A1.mono T3
      have B2 := A2.mono T3
      have et3 := T3 _ _ et1
      have eu3 := T3 _ _ e1
      generalize upd G1 d (.dT (kvsOf f1 ((subs0 xs).take (i + 1)))) = G3 at h3 T3 ed3 S03 er3 aU3 B1 B2 et3 eu3
      generalize upd H2 d (.dT (kvsOf f1 ((subs0 xs).take (i + 1)))) = H3 at h3 ⊢
      have get : ∀ H', Same H3 H' → DGet H' d (.ref t) (some (.bl (hold S f1))) := fun H' s => by
        rw [← kvs_val f1 mem]
        exact DGet.t (s _ _ (h3.here ed3)) (by rw [key_map]; exact s _ _ (h3.here et3))
      have C1 : ∀ H', Same H3 H' → FmAt H' v f1 := fun H' s => B1.mono (h3.1.trans s).toT
      have C2 : ∀ H', Same H3 H' → FmAt H' u f2 := fun H' s => B2.mono (h3.1.trans s).toT
      have Ct : ∀ H', Same H3 H' → H' t = some (.tup (S.map V.str)) := fun H' s => s _ _ (h3.here et3)
      have Cu : ∀ H', Same H3 H' → H' u1 = some (.tup (S1.map V.str)) := fun H' s => s _ _ (h3.here eu3)
      -- the answer, and this law's own
      refine ⟨_, rfl, _, rfl, d, _, rfl, get _ (Same.refl _), _, _, rfl, .bl _, sB _, _, rfl, _, rfl, v, f1, t, S, rfl, C1 _ (Same.refl _), o1, by omega, by omega, Ct _ (Same.refl _), fun H4 s4 => ⟨_, _, rfl, .bl _, sB _, rfl, _, rfl, ?_⟩⟩
      rw [decide_eq_true rfl]
      -- its opposite
      refine iteF ⟨_, rfl, (by show 2 ≤ sizeLine; decide), fun q1 m1 => ?_⟩
      have s5' := s4.trans (same_new (o := .tup [.str "not", v]) m1)
      have b1 : FmAt (upd H4 q1 (.tup [.str "not", v])) (.ref q1) (.nd "not" [f1]) := .nd upd_same (by decide) (.cons (C1 _ s5') .nil)
      generalize upd H4 q1 (.tup [.str "not", v]) = H6 at s5' b1
      have hn1 : hold S (.nd "not" [f1]) = !hold S f1 := by rw [hold_nd, if_pos rfl]; simp only [holdL, List.headD_cons]
      refine ⟨_, rfl, .ref q1, .nd "not" [f1], t, S, rfl, b1, by simp only [Ok, OkAll]; exact ⟨by decide, fun _ => rfl, o1, trivial⟩, by simp only [tall, tallAll]; omega, by simp only [subs, subsAll, List.append_nil, List.length_cons]; omega, Ct _ s5', fun H7 s7 => ⟨_, _, rfl, .bl _, sB _, ?_⟩⟩
      have S7 := s5'.trans s7
      refine ⟨_, rfl, _, rfl, d, _, rfl, get _ S7, _, rfl, _, _, rfl, .bl _, sB _, rfl, _, rfl, ?_⟩
      rw [hn1, decide_eq_true rfl]
      -- the other formula
      refine iteF ⟨_, rfl, _, rfl, u, f2, u1, S1, rfl, C2 _ S7, o2, by omega, by omega, Cu _ S7, fun H8 s8 => ?_⟩
      rw [e12]
      have S8 := S7.trans s8
      -- both
      refine ⟨_, rfl, _, rfl, (by show 3 ≤ sizeLine; decide), fun q2 m2 => ?_⟩
      have s9 := S8.trans (same_new (o := .tup [.str "all", v, u]) m2)
      have b2 : FmAt (upd H8 q2 (.tup [.str "all", v, u])) (.ref q2) (.nd "all" [f1, f2]) := .nd upd_same (by decide) (.cons (C1 _ s9) (.cons (C2 _ s9) .nil))
      generalize upd H8 q2 (.tup [.str "all", v, u]) = H9 at s9 b2
      have hn2 : hold S (.nd "all" [f1, f2]) = (hold S f1 && hold S f2) := by
        rw [hold_nd, if_neg (by decide), if_pos rfl]
        simp only [holdL, List.all_cons, List.all_nil, id, Bool.and_true]
      refine ⟨_, rfl, .ref q2, .nd "all" [f1, f2], t, S, rfl, b2, by simp only [Ok, OkAll]; exact ⟨by decide, fun z => absurd z (by decide), o1, o2, trivial⟩, by simp only [tall, tallAll]; omega, by simp only [subs, subsAll, List.append_nil, List.length_cons, List.length_append]; omega, Ct _ s9, fun H10 s10 => ?_⟩
      have S10 := s9.trans s10
      refine ⟨d, t, _, _, rfl, rfl, rfl, get _ S10, rfl, _, rfl, ?_⟩
      rw [hn2, decide_eq_true rfl]
      -- one of them
      refine iteF ⟨_, rfl, _, rfl, (by show 3 ≤ sizeLine; decide), fun q3 m3 => ?_⟩
      have s11 := S10.trans (same_new (o := .tup [.str "any", u, v]) m3)
      have b3 : FmAt (upd H10 q3 (.tup [.str "any", u, v])) (.ref q3) (.nd "any" [f2, f1]) := .nd upd_same (by decide) (.cons (C2 _ s11) (.cons (C1 _ s11) .nil))
      generalize upd H10 q3 (.tup [.str "any", u, v]) = H11 at s11 b3
      have hn3 : hold S (.nd "any" [f2, f1]) = (hold S f1 || hold S f2) := by
        rw [hold_nd, if_neg (by decide), if_neg (by decide)]
        simp only [holdL, List.any_cons, List.any_nil, id, Bool.or_false]
        exact Bool.or_comm _ _
      refine ⟨_, rfl, .ref q3, .nd "any" [f2, f1], t, S, rfl, b3, by simp only [Ok, OkAll]; exact ⟨by decide, fun z => absurd z (by decide), o2, o1, trivial⟩, by simp only [tall, tallAll]; omega, by simp only [subs, subsAll, List.append_nil, List.length_cons, List.length_append]; omega, Ct _ s11, fun H12 s12 => ?_⟩
      have S12 := s11.trans s12
      refine ⟨d, t, _, _, rfl, rfl, rfl, get _ S12, rfl, _, rfl, ?_⟩
      rw [hn3, decide_eq_true rfl]
      -- further features
      have hq : hold (S ++ (["q", "w"] : List Str)) f1 = hold S f1 := hold_feats f1 fun x hx => by
        have hx' := feats_ten f1 o1 x hx
        rw [List.mem_append]
        refine ⟨fun z => z.elim id fun z => absurd hx' ?_, .inl⟩
        simp only [List.mem_cons, List.not_mem_nil, or_false] at z
        rcases z with rfl | rfl
        · decide
        · decide
      refine iteF ⟨_, rfl, t, S, rfl, Ct _ S12, by omega, fun H13 q4 s13 e13 => ?_⟩
      have S13 := S12.trans s13
      refine ⟨v, f1, q4, _, rfl, C1 _ S13, o1, by omega, by omega, e13, fun H14 s14 => ?_⟩
      have S14 := S13.trans s14
      refine ⟨_, rfl, _, rfl, d, _, rfl, get _ S14, rfl, _, rfl, ?_⟩
      rw [hq, decide_eq_true rfl]
      -- the features of the formula alone
      refine iteF ⟨_, rfl, t, rfl, ⟨_, SqT.of (Ct _ S14)⟩, fun D nD => ?_⟩
      refine lc_tup (xs := S.map V.str) (fun j Hy => Same H14 Hy ∧ ∃ L : List Str, Hy D = some (.lst (L.map V.str)) ∧ L.length ≤ j ∧ ∀ x, x ∈ L ↔ x ∈ S.take j ∧ x ∈ feats f1) ⟨same_new nD, [], upd_same, Nat.le_refl _, fun x => by rw [List.take_zero]; exact ⟨fun h => absurd h List.not_mem_nil, fun h => absurd h.1 List.not_mem_nil⟩⟩ (fun j Hy _ h => SqT.of (h.1 _ _ (Ct _ S14))) ?_ ?_
      · rintro j x Hy hx ⟨sy, L, eD, lD, mD⟩
        rw [List.getElem?_map] at hx
        cases he : S[j]? with
        | none => rw [he] at hx; cases hx
        | some y =>
          rw [he] at hx
          cases hx
          have tj : S.take (j + 1) = S.take j ++ [y] := by rw [List.take_add_one, he]; rfl
          have lj : j < S.length := (List.getElem?_eq_some_iff.mp he).1
          refine ⟨rfl, _, rfl, _, rfl, v, f1, rfl, C1 _ (S14.trans sy), by omega, o1, fun Hz qz ys sz ez ndz mmz soz => ?_⟩
          refine ⟨qz, _, rfl, .inr (SqT.of ez), rfl, flat_texts ys, _, rfl, ?_⟩
          show if inV (.str y) (ys.map V.str) = true then _ else _
          rw [in_texts]
          by_cases hy : y ∈ ys
          · rw [decide_eq_true hy]
            refine iteT ⟨_, rfl, L.map V.str, sz _ _ eD, ?_, fun b o kb => ?_, L ++ [y], ?_, ?_, fun x => ?_⟩
            · rw [List.length_map]
              exact Nat.lt_of_le_of_lt (show L.length ≤ 10 by omega) (by decide)
            · rw [upd_ne (ne_of_none kb nD)]
              exact sz _ _ (sy _ _ kb)
            · rw [upd_same, List.map_append]
              rfl
            · rw [List.length_append]
              show L.length + 1 ≤ j + 1
              omega
            · rw [tj, List.mem_append, List.mem_append, mD x, List.mem_singleton]
              constructor
              · rintro (h | rfl)
                · exact ⟨.inl h.1, h.2⟩
                · exact ⟨.inr rfl, (mmz _).mp hy⟩
              · rintro ⟨h | h, k⟩
                · exact .inl ⟨h, k⟩
                · exact .inr h
          · rw [decide_eq_false hy]
            refine iteF ⟨sy.trans sz, L, sz _ _ eD, by omega, fun x => ?_⟩
            rw [tj, List.mem_append, mD x, List.mem_singleton]
            constructor
            · exact fun h => ⟨.inl h.1, h.2⟩
            · rintro ⟨h | h, k⟩
              · exact ⟨h, k⟩
              · rw [h] at k
                exact absurd ((mmz y).mpr k) hy
      · rintro Hy ⟨sy, L, eD, lD, mD⟩
        rw [List.length_map] at lD mD
        rw [List.take_length] at mD
        refine ⟨D, _, rfl, .inl ⟨SqL.of eD, fun q5 m5 => ?_⟩⟩
        have s15 := (S14.trans sy).trans (same_new (o := .tup (L.map V.str)) m5)
        have e15 : upd Hy q5 (.tup (L.map V.str)) q5 = some (.tup (L.map V.str)) := upd_same
        generalize upd Hy q5 (.tup (L.map V.str)) = H15 at s15 e15
        have hL : hold L f1 = hold S f1 := hold_feats f1 fun x hx => by
          rw [mD x]
          exact ⟨fun h => h.1, fun h => ⟨h, hx⟩⟩
        refine ⟨_, rfl, _, rfl, v, f1, q5, L, rfl, C1 _ s15, o1, by omega, by omega, e15, fun H16 s16 => ?_⟩
        have S16 := s15.trans s16
        refine ⟨_, rfl, _, rfl, d, _, rfl, get _ S16, rfl, _, rfl, ?_⟩
        rw [hL, decide_eq_true rfl]
        exact iteF ⟨G3, _, _, _, _, _, _, _, rfl, S03, (h3.same S16).mono (by omega), ed3, er3, aU3⟩
    · rintro σ Hx ⟨G, o6, o7, o8, o9, o10, o11, o12, rfl, sG, hG, eG, rG, aG⟩
      rw [lU, List.take_length] at eG
      have C1 : ∀ H', Same Hx H' → FmAt H' v f1 := fun H' s => a1.mono (sG.trans (hG.1.trans s)).toT
      have C2 : ∀ H', Same Hx H' → FmAt H' u f2 := fun H' s => a2.mono (sG.trans (hG.1.trans s)).toT
      refine ⟨_, rfl, v, f1, rfl, C1 _ (Same.refl _), by omega, fun H6 s6 => ⟨_, rfl, ?_⟩⟩
      by_cases pos : nots f1 = 0
      · rw [decide_eq_true pos]
        have ed6 := s6 _ _ (hG.here eG)
        refine iteT ⟨d, _, ed6, trivial, fun od => ?_⟩
        have T6 : ∀ b zs, H6 b = some (.tup zs) → upd H6 d (.frz od (.dT (kvsOf f1 (subs0 xs)))) b = some (.tup zs) := sameT_dT ed6
        have off6 : ∀ b o, b ≠ d → H6 b = some o → upd H6 d (.frz od (.dT (kvsOf f1 (subs0 xs)))) b = some o := fun b o nb k => by rw [upd_ne nb]; exact k
        have eF : upd H6 d (.frz od (.dT (kvsOf f1 (subs0 xs)))) d = some (.frz od (.dT (kvsOf f1 (subs0 xs)))) := upd_same
        have ndl : l ≠ d := fun z => by rw [z, zd] at el; cases el
        have el6 := off6 l _ ndl (s6 _ _ (hG.here (sG _ _ el)))
        generalize upd H6 d (.frz od (.dT (kvsOf f1 (subs0 xs)))) = HL at T6 off6 eF el6
        refine ⟨_, rfl, d, od, rfl, .inr ⟨_, eF, ?_⟩⟩
        refine for_keysT (fun i σ Hy => ∃ (o6 o7 o8 o9 o10 o11 o12 : Option V), σ = [some (.ref p), some v, some u, some (.ref l), some (.str (PyData.tuple [datOf f1, datOf f2]).shown), some (.ref d), o6, o7, o8, o9, o10, o11, o12] ∧ Same HL Hy) ?_ ?_ ?_ ?_
        · exact ⟨_, _, _, _, _, _, _, rfl, Same.refl _⟩
        · rintro i σ Hy ⟨_, _, _, _, _, _, _, rfl, sy⟩
          exact sy _ _ eF
        · rintro i k vk qk σ Hy hk hq ⟨p6, p7, p8, p9, p10, p11, p12, rfl, sy⟩
          unfold kvsOf at hk
          rw [List.getElem?_map] at hk
          cases he : (subs0 xs)[i]? with
          | none => rw [he] at hk; cases hk
          | some S =>
            rw [he] at hk
            cases hk
            rw [key_map] at hq
            have memS : S ∈ subs0 xs := List.mem_of_getElem? he
            have subS : S.Sublist xs := (subs0_sub _ xs rfl S).mp memS
            have lS := subS.length_le
            have get : ∀ H' q Z, Same Hy H' → Z ∈ subs0 xs → H' q = some (.tup (Z.map V.str)) → DGet H' d (.ref q) (some (.bl (hold Z f1))) := fun H' q Z s m e => by
              rw [← kvs_val f1 m]
              exact .inr ⟨_, keyOf Z, q, .inr ⟨od, s _ _ (sy _ _ eF)⟩, rfl, by rw [key_map]; exact e, rfl⟩
            refine ⟨_, rfl, l, rfl, ⟨_, SqL.of (sy _ _ el6)⟩, fun D nD => ?_⟩
            refine lc_list (xs := xs.map V.str) (fun j Hz => Same Hy Hz ∧ ∃ (ws : List V) (Zs : List (List Str)), Hz D = some (.lst ws) ∧ ws.length = j ∧ TxAll Hz ws Zs ∧ ∀ Z ∈ Zs, Z ∈ subs0 xs ∧ ∀ x ∈ S, x ∈ Z) ⟨same_new nD, [], [], upd_same, rfl, .nil, fun _ h => absurd h List.not_mem_nil⟩ (fun j Hz _ h => SqL.of (h.1 _ _ (sy _ _ el6))) ?_ ?_
            · rintro j x Hz hx ⟨sz, ws, Zs, eD, lD, aD, gD⟩
              rw [List.getElem?_map] at hx
              cases hj : xs[j]? with
              | none => rw [hj] at hx; cases hx
              | some y =>
                rw [hj] at hx
                cases hx
                have my : y ∈ xs := List.mem_of_getElem? hj
                have ljx : j < xs.length := (List.getElem?_eq_some_iff.mp hj).1
                refine ⟨rfl, qk, S, y, rfl, rfl, sz _ _ hq, by omega, fun H7 q2 s7 e7 => ?_⟩
                refine ⟨q2, S ++ [y], rfl, SqT.of e7, ?_, fun ps np => ?_⟩
                · rw [List.length_append]
                  exact Nat.lt_of_le_of_lt (show S.length + 1 + 1 ≤ 12 by omega) (by decide)
                have nA := nodup_allL (S ++ [y])
                have mA : ∀ x, x ∈ allL (S ++ [y]) → x ∈ xs := fun x hx => by
                  rcases List.mem_append.mp ((mem_allL _ x).mp hx) with h | h
                  · exact subS.subset h
                  · rw [List.mem_singleton.mp h]
                    exact my
                have lA := ten_len nA fun x hx => okx x (mA x hx)
                refine ⟨ps, _, rfl, upd_same, by omega, fun zs pz pm so nz => ?_⟩
                have subZ : zs.Sublist xs := sorted_sub so (pm.nodup_iff.mpr nA) (ten_up.sublist sub) (sub.nodup ten_nodup) fun z hz => mA z (pm.mem_iff.mp hz)
                refine ⟨pz, _, rfl, .inl ⟨SqL.of upd_same, fun tz ntz => ?_⟩⟩
                have s8 := s7.trans ((same_new (o := SetT P w ps (allL (S ++ [y]))) np).trans ((same_new (o := .lst (zs.map V.str)) nz).trans (same_new (o := .tup (zs.map V.str)) ntz)))
                refine ⟨ws, s8 _ _ eD, ?_, fun b o kb => ?_, ws ++ [.ref tz], Zs ++ [zs], upd_same, ?_, ?_, fun Z hZ => ?_⟩
                · rw [lD]
                  exact Nat.lt_of_lt_of_le (show j < 10 by omega) (by decide)
                · rw [upd_ne (ne_of_none kb nD)]
                  exact s8 _ _ (sz _ _ kb)
                · rw [List.length_append, lD]
                  rfl
                · exact (aD.mono (s8.toT.trans (sameT_lst (s8 _ _ eD)))).append (.cons (sameT_lst (s8 _ _ eD) _ _ upd_same) .nil)
                · rcases List.mem_append.mp hZ with h | h
                  · exact gD Z h
                  · rw [List.mem_singleton.mp h]
                    exact ⟨(subs0_sub _ xs rfl zs).mpr subZ, fun x hx => pm.mem_iff.mpr ((mem_allL _ x).mpr (List.mem_append_left _ hx))⟩
            · rintro Hz ⟨sz, ws, Zs, eD, lD, aD, gD⟩
              rw [List.length_map] at lD
              refine ⟨_, rfl, _, rfl, d, _, rfl, get _ qk S sz memS (sz _ _ hq), _, rfl, ?_⟩
              cases hb : hold S f1 with
              | false => exact iteF ⟨_, _, _, _, _, _, _, rfl, sy.trans sz⟩
              | true =>
                refine iteT ⟨_, rfl, D, rfl, ⟨_, SqL.of eD⟩, fun D2 nD2 => ?_⟩
                refine lc_list (xs := ws) (fun j Hw => Same Hz Hw ∧ Hw D2 = some (.lst ((List.replicate j true).map V.bl))) ⟨same_new nD2, upd_same⟩ (fun j Hw _ h => SqL.of (h.1 _ _ eD)) ?_ ?_
                · rintro j x Hw hx ⟨sw, ew⟩
                  obtain ⟨tz, Z, rfl, hZ, ez⟩ := aD.get hx
                  have lj : j < ws.length := (List.getElem?_eq_some_iff.mp hx).1
                  obtain ⟨mZ, uZ⟩ := gD Z (List.mem_of_getElem? hZ)
                  have up := hold_up uZ f1 pos hb
                  have gz := get _ tz Z (sz.trans sw) mZ (sw _ _ ez)
                  rw [up] at gz
                  refine ⟨rfl, _, rfl, _, rfl, d, _, rfl, gz, _, ew, ?_, fun b o kb => ?_, ?_⟩
                  · rw [List.length_map, List.length_replicate]
                    exact Nat.lt_of_lt_of_le (show j < 10 by omega) (by decide)
                  · rw [upd_ne (ne_of_none kb nD2)]
                    exact sw _ _ kb
                  · rw [upd_same, snoc_true]
                · rintro Hw ⟨sw, ew⟩
                  refine ⟨D2, _, rfl, SqL.of ew, _, rfl, ?_⟩
                  rw [all_true]
                  exact iteF ⟨_, _, _, _, _, _, _, rfl, sy.trans (sz.trans sw)⟩
        · rintro σ Hy ⟨p6, p7, p8, p9, p10, p11, p12, rfl, sy⟩
          refine ⟨sy _ _ eF, ?_⟩
          have s7 : Same H6 (upd Hy d (.dT (kvsOf f1 (subs0 xs)))) := fun b o kb => by
            by_cases hb : b = d
            · rw [hb, ed6] at kb
              cases kb
              rw [hb, upd_same]
            · rw [upd_ne hb]
              exact sy _ _ (off6 b o hb kb)
          have s8 := s6.trans s7
          generalize upd Hy d (.dT (kvsOf f1 (subs0 xs))) = H7 at s7 s8
          refine ⟨_, rfl, _, rfl, (by show 2 ≤ sizeLine; decide), fun t9 n9 => ?_⟩
          have s9 := s8.trans (same_new (o := .tup [v, u]) n9)
          refine ⟨.ref t9, _, rfl, .tup upd_same (.cons (C1 _ s9).da (.cons (C2 _ s9).da .nil)), sFF, _, rfl, rfl, ?_⟩
          rw [decide_eq_true rfl]
          exact q G _ sG ((hG.same s9).mono (by omega))
      · rw [decide_eq_false pos]
        refine iteF ⟨_, rfl, _, rfl, (by show 2 ≤ sizeLine; decide), fun t9 n9 => ?_⟩
        have s9 := s6.trans (same_new (o := .tup [v, u]) n9)
        refine ⟨.ref t9, _, rfl, .tup upd_same (.cons (C1 _ s9).da (.cons (C2 _ s9).da .nil)), sFF, _, rfl, rfl, ?_⟩
        rw [decide_eq_true rfl]
        exact q G _ sG ((hG.same s9).mono (by omega))
end
end L2.Fu
/-! ## The law -/
namespace L2.Fu
open PySem PySem.Spec PyProof.Rows
theorem depth3_of {v : V} (h : v ∈ [V.int 0, V.int 1, V.int 2, V.int 3]) : ∃ m : Nat, v = .int ((m : Nat) : Int) ∧ m ≤ 3 := by
  simp only [List.mem_cons, List.not_mem_nil, or_false] at h
  rcases h with rfl | rfl | rfl | rfl
  · exact ⟨0, rfl, by decide⟩
  · exact ⟨1, rfl, by decide⟩
  · exact ⟨2, rfl, by decide⟩
  · exact ⟨3, rfl, by decide⟩
theorem pow_three {d : Nat} (h : d ≤ 3) : 4 ^ d ≤ 64 := Nat.pow_le_pow_right (n := 4) (by decide) h
def spLaw (K : PySem.W.Frag) : Sp := fun vs H Q _ => ∃ (a : Addr) (ns : List Int), vs = [.ref a] ∧ SqL K H a (ns.map V.int) ∧ ns.length ≤ 63 ∧ ∀ H', Q (.bl true) H'
section
variable {P : Program} {w : World} {K : PySem.W.Frag} {mg : Str → Option Value} {base : Heap}
abbrev nLaw : List Str := ["_law_script", "_law_k", "_law_hand_here", "_law_names_here", "_law_turn", "_law_formula_here"]
theorem scLaw : FnScope nLaw ["_law_script"] (defScope sLaw) := ⟨rfl, rfl, rfl, by decide +kernel, rfl, by decide +kernel, by decide +kernel⟩
theorem ok_law {f fH fN fT fO fF fR : Addr} {fd fdH fdN fdT fdO fdF fdR : FuncData} (F : Fun K "law" "law" sLaw f fd)
    (GH : FnOk P w K mg base CX0 1 fH fdH ["_law_script", "_law_k"] (spHand K)) (mH : mg "_law_hand" = some (.ref fH)) (kH : PySem.W.keepIn K (.ref fH) = true) (bH : Binds K fdH ["_law_script", "_law_k"] [])
    (GN : FnOk P w K mg base CX0 2 fN fdN ["_law_hand_here", "_law_count"] spNames) (mN : mg "_law_names" = some (.ref fN)) (kN : PySem.W.keepIn K (.ref fN) = true) (bN : Binds K fdN ["_law_hand_here", "_law_count"] [])
    (GT : FnOk P w K mg base CX0 1 fT fdT ["_law_hand_here", "_law_many"] spTake) (mT : mg "_law_take" = some (.ref fT)) (kT : PySem.W.keepIn K (.ref fT) = true) (bT : Binds K fdT ["_law_hand_here", "_law_many"] [])
    (GO : FnOk P w K mg base CX0 2 fO fdO [ofN, ofS] (spOf K)) (mO : mg "_law_of" = some (.ref fO)) (kO : PySem.W.keepIn K (.ref fO) = true) (bO : Binds K fdO [ofN, ofS] [])
    (GF : FnOk P w K mg base CX0 6 fF fdF ["_law_hand_here", "_law_names_here", "_law_depth"] (spForm 4)) (mF : mg "_law_formula" = some (.ref fF)) (kF : PySem.W.keepIn K (.ref fF) = true) (bF : Binds K fdF ["_law_hand_here", "_law_names_here", "_law_depth"] [])
    (GR : FnG P w K mg base CX0 7 fR fdR ["_law_hand_here", "_law_formula_here", "_law_other", "_law_names_here"] spRight) (mR : mg "_law_right" = some (.ref fR)) (kR : PySem.W.keepIn K (.ref fR) = true) (bR : Binds K fdR ["_law_hand_here", "_law_formula_here", "_law_other", "_law_names_here"] [])
    (zRange : mg "range" = none) (zMax : mg "max" = none) (zMin : mg "min" = none) (zLen : mg "len" = none) : FnG P w K mg base CX0 8 f fd ["_law_script"] (spLaw K) := by
  refine Fun.okG F scLaw (fun vs H Q E h => ?_) (fun cdv A outer s H vs Q E gd hr h => ?_)
  · obtain ⟨a, ns, rfl, _⟩ := h
    rfl
  · obtain ⟨a, ns, rfl, hS, h63, q⟩ := h
    have hr1 := hr.mono (show 1 ≤ 7 by decide)
    have hr2 := hr.mono (show 2 ≤ 7 by decide)
    have hr6 := hr.mono (show 6 ≤ 7 by decide)
    refine ⟨_, pss_cons (ps_for PassesOwn.never rfl (pi_range1 (by rfl) zRange (pa_cons (pe_callB (call_max2 rfl) (by rfl) zMax PyProof.Rows.boot_max (pa_cons pe_int (pa_cons (pe_callB (call_min2 rfl) (by rfl) zMin PyProof.Rows.boot_min (pa_cons pe_int (pa_cons (pe_callB call_len_seq (by rfl) zLen PySem.boot_len (pa_cons (pv 0) pa_nil)) pa_nil))) pa_nil))) pa_nil)) (pg_name (i := 1) scLaw.nd rfl (.inl rfl))
        (pss_cons (ps_set (i := 2) scLaw.nd rfl (.inl rfl) (pe_call GH hr1 rfl mH kH bH .nil pass0 (pa_cons (pv 0) (pa_cons (pv 1) pa_nil))))
        (pss_cons (ps_set (i := 3) scLaw.nd rfl (.inl rfl) (pe_call GN hr2 rfl mN kN bN .nil pass0 (pa_cons (pv 2) (pa_cons (pe_call GT hr1 rfl mT kT bT .nil pass0 (pa_cons (pv 2) (pa_cons pe_int pa_nil))) pa_nil))))
        (pss_one (ps_for PassesOwn.never rfl (pi_range1 (by rfl) zRange (pa_cons pe_int pa_nil)) (pg_name (i := 4) scLaw.nd rfl (.inl rfl))
          (pss_cons (ps_set (i := 5) scLaw.nd rfl (.inl rfl) (pe_call GF hr6 rfl mF kF bF .nil pass0 (pa_cons (pv 2) (pa_cons (pv 3) (pa_cons (pe_call GO hr2 rfl mO kO bO .nil pass0 (pa_cons (pv 2) (pa_cons (pe_lst (pa_cons pe_int (pa_cons pe_int (pa_cons pe_int (pa_cons pe_int pa_nil))))) pa_nil))) pa_nil)))))
          (pss_one (ps_if (pt_not (pt_val (pe_callG GR gd hr rfl mR kR bR .nil pass0 (pa_cons (pv 2) (pa_cons (pv 5) (pa_cons (pe_call GF hr6 rfl mF kF bF .nil pass0 (pa_cons (pv 2) (pa_cons (pv 3) (pa_cons pe_int pa_nil)))) (pa_cons (pv 3) pa_nil))))))) (pss_one (ps_ret pe_bl)) pss_nil))))))))
      (pss_one (ps_ret pe_bl)), ?_⟩
    have most : ∃ n : Int, (if (if ((ns.map V.int).length : Int) < 2 then ((ns.map V.int).length : Int) else 2) > 1 then (if ((ns.map V.int).length : Int) < 2 then ((ns.map V.int).length : Int) else 2) else 1) = n ∧ 0 ≤ n ∧ n ≤ 2 := by
      refine ⟨_, rfl, ?_, ?_⟩
      · split <;> omega
      · split <;> split <;> omega
    obtain ⟨n, en, n0, n3⟩ := most
    refine ⟨_, rfl, a, _, rfl, .inl hS, _, _, rfl, _, _, rfl, _, rfl, ?_, ?_, ?_⟩
    · rw [en]; omega
    · rw [en]; omega
    rw [en]
    refine for_range (n := n.toNat) (fun i σ Hc => ∃ o1 o2 o3 o4 o5 : Option V, σ = [some (.ref a), o1, o2, o3, o4, o5] ∧ Same H Hc) ⟨_, _, _, _, _, rfl, Same.refl _⟩ ?_ ?_
    · rintro i σ Hc hi ⟨o1, o2, o3, o4, o5, rfl, s0⟩
      refine ⟨_, rfl, _, rfl, a, ns, _, rfl, s0.seq hS, by omega, by omega, fun H1 p h1 => ?_⟩
      refine ⟨_, rfl, _, rfl, Hc, p, 0, 6, rfl, by decide, by decide, by decide, h1, fun H2 d d0 d1 h2 => ?_⟩
      obtain ⟨c, rfl⟩ := Int.eq_ofNat_of_zero_le d0
      refine ⟨Hc, p, 1, c, rfl, by decide, h2, fun G1 H3 l xs s3 h3 el sub lx => ?_⟩
      obtain ⟨okx, _⟩ := sub_ten sub
      refine ⟨10, rfl, by decide, by decide, ?_⟩
      refine for_range (n := 10) (fun j σ Hx => ∃ (G : Hp) (o4 o5 : Option V), σ = [some (.ref a), some (.int (0 + ((i : Nat) : Int))), some (.ref p), some (.ref l), o4, o5] ∧ Same G1 G ∧ Hand G Hx p (20 + 1000 * j)) ⟨G1, _, _, rfl, Same.refl _, h3.mono (by decide)⟩ ?_ ?_
      · rintro j σ Hx hj ⟨G, o4, o5, rfl, sG, hG⟩
        refine ⟨_, rfl, _, rfl, _, rfl, (by show 4 ≤ sizeLine; decide), fun r nr => ?_⟩
        obtain ⟨h5, s5⟩ := hG.lay (.lst [.int 0, .int 1, .int 2, .int 3]) nr
        refine ⟨_, p, r, 20 + 1000 * j, [.int 0, .int 1, .int 2, .int 3], rfl, SqL.of upd_same, List.cons_ne_nil _ _, by decide, by omega, h5, fun He v hv h6 => ?_⟩
        generalize upd G r (.lst [.int 0, .int 1, .int 2, .int 3]) = Ga at s5 h5 h6
        obtain ⟨dd, rfl, dd3⟩ := depth3_of hv
        have pw := pow_three dd3
        have sa := sG.trans s5
        refine ⟨Ga, p, l, xs, 20 + 1000 * j + 1, dd, rfl, by omega, by omega, by omega, h6, sa _ _ el, okx, by omega, fun Gb Hf v g s7 h7 a7 q7 z7 t7 => ?_⟩
        have sb := sa.trans s7
        refine ⟨_, rfl, _, rfl, _, rfl, _, rfl, Gb, p, l, xs, _, 1, rfl, by omega, by omega, by omega, h7, sb _ _ el, okx, by omega, fun Gc Hg v2 g2 s8 h8 a8 q8 z8 t8 => ?_⟩
        have sc := sb.trans s8
        refine ⟨_, rfl, Gc, p, l, v, v2, g, g2, xs, _, rfl, h8, by omega, a7.mono s8.toT, a8, q7, q8, by omega, by omega, by omega, by omega, sc _ _ el, sub, by omega, fun Gd Hh s9 h9 => ⟨_, rfl, iteF ?_⟩⟩
        exact ⟨Gd, _, _, rfl, sc.trans s9, h9.mono (by omega)⟩
      · rintro σ Hx ⟨G, o4, o5, rfl, sG, hG⟩
        exact ⟨_, _, _, _, _, rfl, s0.trans (s3.trans (sG.trans hG.1))⟩
    · rintro σ Hc ⟨o1, o2, o3, o4, o5, rfl, s0⟩
      exact q Hc
end
end L2.Fu
/-! ## What the top has written, and the end -/
namespace L2.Fu
open PySem PySem.Spec PyProof.Rows
open PySem.W (Frag findIn subIn typeIn keepIn hasDictIn specialIn takesIn mroIn kitOne excIn nsIn codeIn)
theorem all_mk {l : PySem.W.OpenLaw} {w : World} {K : Frag} {h : Heap} {mg : Str → Option Value} {fa : Addr} {fParts fIn fFeat fHolds fPos fHand fTake fOf fNames fForm fLHolds fSubs fMixed fRight fLaw : Addr}
    {odParts anParts odIn anIn odFeat anFeat odHolds anHolds odPos anPos odHand anHand odTake anTake odOf anOf odNames anNames odForm anForm odLHolds anLHolds odSubs anSubs odMixed anMixed odRight anRight odLaw anLaw : Option Addr}
    {slParts slIn slFeat slHolds slPos slHand slTake slOf slNames slForm slLHolds slSubs slMixed slRight slLaw : Array (Option Value)}
    {ocParts kVParts dcParts pmParts cdParts ctParts ocIn kVIn dcIn pmIn cdIn ctIn ocFeat kVFeat dcFeat pmFeat cdFeat ctFeat ocHolds kVHolds dcHolds pmHolds cdHolds ctHolds ocPos kVPos dcPos pmPos cdPos ctPos ocHand kVHand dcHand pmHand cdHand ctHand ocTake kVTake dcTake pmTake cdTake ctTake ocOf kVOf dcOf pmOf cdOf ctOf ocNames kVNames dcNames pmNames cdNames ctNames ocForm kVForm dcForm pmForm cdForm ctForm ocLHolds kVLHolds dcLHolds pmLHolds cdLHolds ctLHolds ocSubs kVSubs dcSubs pmSubs cdSubs ctSubs ocMixed kVMixed dcMixed pmMixed cdMixed ctMixed ocRight kVRight dcRight pmRight cdRight ctRight ocLaw kVLaw dcLaw pmLaw cdLaw ctLaw : Value}
    (X : K.In h) (G : h.Ns mainGlobals mg) (hfa : mg "law" = some (.ref fa))
    (aParts : nsIn K mainGlobals "parts_of" = some (some (.ref fParts)))
    (lParts : K.lookup fParts = some ⟨ocParts, odParts, .func (PySem.W.fnOf "parts_of" "parts_of" (defArgs sParts) (defBody sParts) (defScope sParts) .none kVParts dcParts pmParts anParts cdParts ctParts), slParts⟩)
    (cParts : codeIn K cdParts "parts_of" = true)
    (kParts : keepIn K (.ref fParts) = true)
    (aIn : nsIn K mainGlobals "formulas_in" = some (some (.ref fIn)))
    (lIn : K.lookup fIn = some ⟨ocIn, odIn, .func (PySem.W.fnOf "formulas_in" "formulas_in" (defArgs sIn) (defBody sIn) (defScope sIn) .none kVIn dcIn pmIn anIn cdIn ctIn), slIn⟩)
    (cIn : codeIn K cdIn "formulas_in" = true)
    (kIn : keepIn K (.ref fIn) = true)
    (aFeat : nsIn K mainGlobals "features_of" = some (some (.ref fFeat)))
    (lFeat : K.lookup fFeat = some ⟨ocFeat, odFeat, .func (PySem.W.fnOf "features_of" "features_of" (defArgs sFeat) (defBody sFeat) (defScope sFeat) .none kVFeat dcFeat pmFeat anFeat cdFeat ctFeat), slFeat⟩)
    (cFeat : codeIn K cdFeat "features_of" = true)
    (kFeat : keepIn K (.ref fFeat) = true)
    (aHolds : nsIn K mainGlobals "holds" = some (some (.ref fHolds)))
    (lHolds : K.lookup fHolds = some ⟨ocHolds, odHolds, .func (PySem.W.fnOf "holds" "holds" (defArgs sHolds) (defBody sHolds) (defScope sHolds) .none kVHolds dcHolds pmHolds anHolds cdHolds ctHolds), slHolds⟩)
    (cHolds : codeIn K cdHolds "holds" = true)
    (kHolds : keepIn K (.ref fHolds) = true)
    (aPos : nsIn K mainGlobals "is_positive" = some (some (.ref fPos)))
    (lPos : K.lookup fPos = some ⟨ocPos, odPos, .func (PySem.W.fnOf "is_positive" "is_positive" (defArgs sPos) (defBody sPos) (defScope sPos) .none kVPos dcPos pmPos anPos cdPos ctPos), slPos⟩)
    (cPos : codeIn K cdPos "is_positive" = true)
    (kPos : keepIn K (.ref fPos) = true)
    (aHand : nsIn K mainGlobals "_law_hand" = some (some (.ref fHand)))
    (lHand : K.lookup fHand = some ⟨ocHand, odHand, .func (PySem.W.fnOf "_law_hand" "_law_hand" (defArgs sHand) (defBody sHand) (defScope sHand) .none kVHand dcHand pmHand anHand cdHand ctHand), slHand⟩)
    (cHand : codeIn K cdHand "_law_hand" = true)
    (kHand : keepIn K (.ref fHand) = true)
    (aTake : nsIn K mainGlobals "_law_take" = some (some (.ref fTake)))
    (lTake : K.lookup fTake = some ⟨ocTake, odTake, .func (PySem.W.fnOf "_law_take" "_law_take" (defArgs sTake) (defBody sTake) (defScope sTake) .none kVTake dcTake pmTake anTake cdTake ctTake), slTake⟩)
    (cTake : codeIn K cdTake "_law_take" = true)
    (kTake : keepIn K (.ref fTake) = true)
    (aOf : nsIn K mainGlobals "_law_of" = some (some (.ref fOf)))
    (lOf : K.lookup fOf = some ⟨ocOf, odOf, .func (PySem.W.fnOf "_law_of" "_law_of" (defArgs sOf) (defBody sOf) (defScope sOf) .none kVOf dcOf pmOf anOf cdOf ctOf), slOf⟩)
    (cOf : codeIn K cdOf "_law_of" = true)
    (kOf : keepIn K (.ref fOf) = true)
    (aNames : nsIn K mainGlobals "_law_names" = some (some (.ref fNames)))
    (lNames : K.lookup fNames = some ⟨ocNames, odNames, .func (PySem.W.fnOf "_law_names" "_law_names" (defArgs sNames) (defBody sNames) (defScope sNames) .none kVNames dcNames pmNames anNames cdNames ctNames), slNames⟩)
    (cNames : codeIn K cdNames "_law_names" = true)
    (kNames : keepIn K (.ref fNames) = true)
    (aForm : nsIn K mainGlobals "_law_formula" = some (some (.ref fForm)))
    (lForm : K.lookup fForm = some ⟨ocForm, odForm, .func (PySem.W.fnOf "_law_formula" "_law_formula" (defArgs sForm) (defBody sForm) (defScope sForm) .none kVForm dcForm pmForm anForm cdForm ctForm), slForm⟩)
    (cForm : codeIn K cdForm "_law_formula" = true)
    (kForm : keepIn K (.ref fForm) = true)
    (aLHolds : nsIn K mainGlobals "_law_holds" = some (some (.ref fLHolds)))
    (lLHolds : K.lookup fLHolds = some ⟨ocLHolds, odLHolds, .func (PySem.W.fnOf "_law_holds" "_law_holds" (defArgs sLHolds) (defBody sLHolds) (defScope sLHolds) .none kVLHolds dcLHolds pmLHolds anLHolds cdLHolds ctLHolds), slLHolds⟩)
    (cLHolds : codeIn K cdLHolds "_law_holds" = true)
    (kLHolds : keepIn K (.ref fLHolds) = true)
    (aSubs : nsIn K mainGlobals "_law_subsets" = some (some (.ref fSubs)))
    (lSubs : K.lookup fSubs = some ⟨ocSubs, odSubs, .func (PySem.W.fnOf "_law_subsets" "_law_subsets" (defArgs sSubs) (defBody sSubs) (defScope sSubs) .none kVSubs dcSubs pmSubs anSubs cdSubs ctSubs), slSubs⟩)
    (cSubs : codeIn K cdSubs "_law_subsets" = true)
    (kSubs : keepIn K (.ref fSubs) = true)
    (aMixed : nsIn K mainGlobals "_law_mixed" = some (some (.ref fMixed)))
    (lMixed : K.lookup fMixed = some ⟨ocMixed, odMixed, .func (PySem.W.fnOf "_law_mixed" "_law_mixed" (defArgs sMixed) (defBody sMixed) (defScope sMixed) .none kVMixed dcMixed pmMixed anMixed cdMixed ctMixed), slMixed⟩)
    (cMixed : codeIn K cdMixed "_law_mixed" = true)
    (kMixed : keepIn K (.ref fMixed) = true)
    (aRight : nsIn K mainGlobals "_law_right" = some (some (.ref fRight)))
    (lRight : K.lookup fRight = some ⟨ocRight, odRight, .func (PySem.W.fnOf "_law_right" "_law_right" (defArgs sRight) (defBody sRight) (defScope sRight) .none kVRight dcRight pmRight anRight cdRight ctRight), slRight⟩)
    (cRight : codeIn K cdRight "_law_right" = true)
    (kRight : keepIn K (.ref fRight) = true)
    (aLaw : nsIn K mainGlobals "law" = some (some (.ref fLaw)))
    (lLaw : K.lookup fLaw = some ⟨ocLaw, odLaw, .func (PySem.W.fnOf "law" "law" (defArgs sLaw) (defBody sLaw) (defScope sLaw) .none kVLaw dcLaw pmLaw anLaw cdLaw ctLaw), slLaw⟩)
    (cLaw : codeIn K cdLaw "law" = true)
    (kLaw : keepIn K (.ref fLaw) = true)
    (z_len : nsIn K mainGlobals "len" = some none)
    (z_abs : nsIn K mainGlobals "abs" = some none)
    (z_int : nsIn K mainGlobals "int" = some none)
    (z_range : nsIn K mainGlobals "range" = some none)
    (z_max : nsIn K mainGlobals "max" = some none)
    (z_min : nsIn K mainGlobals "min" = some none)
    (z_tuple : nsIn K mainGlobals "tuple" = some none)
    (z_repr : nsIn K mainGlobals "repr" = some none)
    (z_sorted : nsIn K mainGlobals "sorted" = some none)
    (z_set : nsIn K mainGlobals "set" = some none)
    (z_all : nsIn K mainGlobals "all" = some none)
    (z_any : nsIn K mainGlobals "any" = some none)
    (z_list : nsIn K mainGlobals "list" = some none) :
    ∃ fd : FuncData, (∀ (s : Shared) (v : Value), BindsTo s fd ⟨[v], []⟩ [("_law_script", v)]) ∧ ∀ base : Heap, K.In base → base.Ns mainGlobals mg → FnG l.prog w K mg base CX0 8 fa fd ["_law_script"] (spLaw K) := by
  have e := hfa.symm.trans (PySem.W.mg_of X G aLaw)
  cases e
  have FParts := fun_mk (st := sParts) lParts cParts kParts
  have FIn := fun_mk (st := sIn) lIn cIn kIn
  have FFeat := fun_mk (st := sFeat) lFeat cFeat kFeat
  have FHolds := fun_mk (st := sHolds) lHolds cHolds kHolds
  have FPos := fun_mk (st := sPos) lPos cPos kPos
  have FHand := fun_mk (st := sHand) lHand cHand kHand
  have FTake := fun_mk (st := sTake) lTake cTake kTake
  have FOf := fun_mk (st := sOf) lOf cOf kOf
  have FNames := fun_mk (st := sNames) lNames cNames kNames
  have FForm := fun_mk (st := sForm) lForm cForm kForm
  have FLHolds := fun_mk (st := sLHolds) lLHolds cLHolds kLHolds
  have FSubs := fun_mk (st := sSubs) lSubs cSubs kSubs
  have FMixed := fun_mk (st := sMixed) lMixed cMixed kMixed
  have FRight := fun_mk (st := sRight) lRight cRight kRight
  have FLaw := fun_mk (st := sLaw) lLaw cLaw kLaw
  have bParts := FParts.binds (ps := ["formula"]) fun _ _ _ _ _ _ us hl => match us, hl with | [_], _ => rfl
  have bIn := FIn.binds (ps := ["formula"]) fun _ _ _ _ _ _ us hl => match us, hl with | [_], _ => rfl
  have bFeat := FFeat.binds (ps := ["formula"]) fun _ _ _ _ _ _ us hl => match us, hl with | [_], _ => rfl
  have bHolds := FHolds.binds (ps := ["formula", "features"]) fun _ _ _ _ _ _ us hl => match us, hl with | [_, _], _ => rfl
  have bPos := FPos.binds (ps := ["formula"]) fun _ _ _ _ _ _ us hl => match us, hl with | [_], _ => rfl
  have bHand := FHand.binds (ps := ["_law_script", "_law_k"]) fun _ _ _ _ _ _ us hl => match us, hl with | [_, _], _ => rfl
  have bTake := FTake.binds (ps := ["_law_hand_here", "_law_many"]) fun _ _ _ _ _ _ us hl => match us, hl with | [_, _], _ => rfl
  have bOf := FOf.binds (ps := ["_law_hand_here", "_law_some"]) fun _ _ _ _ _ _ us hl => match us, hl with | [_, _], _ => rfl
  have bNames := FNames.binds (ps := ["_law_hand_here", "_law_count"]) fun _ _ _ _ _ _ us hl => match us, hl with | [_, _], _ => rfl
  have bForm := FForm.binds (ps := ["_law_hand_here", "_law_names_here", "_law_depth"]) fun _ _ _ _ _ _ us hl => match us, hl with | [_, _, _], _ => rfl
  have bLHolds := FLHolds.binds (ps := ["_law_formula_here", "_law_some"]) fun _ _ _ _ _ _ us hl => match us, hl with | [_, _], _ => rfl
  have bSubs := FSubs.binds (ps := ["_law_names_here"]) fun _ _ _ _ _ _ us hl => match us, hl with | [_], _ => rfl
  have bMixed := FMixed.binds (ps := ["_law_hand_here", "_law_things"]) fun _ _ _ _ _ _ us hl => match us, hl with | [_, _], _ => rfl
  have bRight := FRight.binds (ps := ["_law_hand_here", "_law_formula_here", "_law_other", "_law_names_here"]) fun _ _ _ _ _ _ us hl => match us, hl with | [_, _, _, _], _ => rfl
  refine ⟨PySem.W.fnOf "law" "law" (defArgs sLaw) (defBody sLaw) (defScope sLaw) .none kVLaw dcLaw pmLaw anLaw cdLaw ctLaw, fun s v => .of_eq rfl, fun base _ _ => ?_⟩
  have GHand := ok_hand (P := l.prog) (w := w) (mg := mg) (base := base) FHand (PySem.W.mg_none_of X G z_len) (PySem.W.mg_none_of X G z_abs) (PySem.W.mg_none_of X G z_int)
  have GTake := ok_take (P := l.prog) (w := w) (mg := mg) (base := base) FTake
  have GOf := ok_of FOf GTake (PySem.W.mg_of X G aTake) kTake bTake (PySem.W.mg_none_of X G z_len)
  have GParts := ok_parts (P := l.prog) (w := w) (mg := mg) (base := base) FParts
  have GIn := ok_in FIn GParts (PySem.W.mg_of X G aParts) kParts bParts
  have GFeat := ok_feat FFeat GIn (PySem.W.mg_of X G aIn) kIn bIn (PySem.W.mg_none_of X G z_tuple) (PySem.W.mg_none_of X G z_sorted)
  have GPos := ok_pos FPos GIn (PySem.W.mg_of X G aIn) kIn bIn (PySem.W.mg_none_of X G z_all)
  have GHolds := ok_holds FHolds (PySem.W.mg_of X G aHolds) kHolds bHolds GParts (PySem.W.mg_of X G aParts) kParts bParts (PySem.W.mg_none_of X G z_all) (PySem.W.mg_none_of X G z_any) 5
  have GNames := ok_names FNames GTake (PySem.W.mg_of X G aTake) kTake bTake (PySem.W.mg_none_of X G z_len)
  have GForm := ok_form FForm (PySem.W.mg_of X G aForm) kForm bForm GTake (PySem.W.mg_of X G aTake) kTake bTake GOf (PySem.W.mg_of X G aOf) kOf bOf (PySem.W.mg_none_of X G z_range) (PySem.W.mg_none_of X G z_tuple) 4
  have GLHolds := ok_lholds (P := l.prog) (w := w) (base := base) FLHolds (PySem.W.mg_of X G aLHolds) kLHolds bLHolds (PySem.W.mg_none_of X G z_all) (PySem.W.mg_none_of X G z_any) 5
  have GSubs := ok_subs (P := l.prog) (w := w) (mg := mg) (base := base) FSubs
  have GMixed := ok_mixed FMixed GTake (PySem.W.mg_of X G aTake) kTake bTake (PySem.W.mg_none_of X G z_len) (PySem.W.mg_none_of X G z_list) (PySem.W.mg_none_of X G z_tuple)
  have GRight := ok_right FRight GSubs (PySem.W.mg_of X G aSubs) kSubs bSubs GMixed (PySem.W.mg_of X G aMixed) kMixed bMixed GHolds (PySem.W.mg_of X G aHolds) kHolds bHolds GLHolds (PySem.W.mg_of X G aLHolds) kLHolds bLHolds GFeat (PySem.W.mg_of X G aFeat) kFeat bFeat GPos (PySem.W.mg_of X G aPos) kPos bPos (PySem.W.mg_none_of X G z_tuple) (PySem.W.mg_none_of X G z_repr) (PySem.W.mg_none_of X G z_sorted) (PySem.W.mg_none_of X G z_set) (PySem.W.mg_none_of X G z_all)
  exact ok_law FLaw GHand (PySem.W.mg_of X G aHand) kHand bHand GNames (PySem.W.mg_of X G aNames) kNames bNames GTake (PySem.W.mg_of X G aTake) kTake bTake GOf (PySem.W.mg_of X G aOf) kOf bOf GForm (PySem.W.mg_of X G aForm) kForm bForm GRight (PySem.W.mg_of X G aRight) kRight bRight (PySem.W.mg_none_of X G z_range) (PySem.W.mg_none_of X G z_max) (PySem.W.mg_none_of X G z_min) (PySem.W.mg_none_of X G z_len)
end L2.Fu

open PySem PySem.W PyProof.Rows in
set_option maxRecDepth 100000 in
set_option maxHeartbeats 0 in
theorem PySem.Challenge.cw_featureunion_k03_whole_formulas_at_all_s_holds : PySem.Challenge.rw_featureunion_k03_whole_formulas_at_all_s.Holds := by
  w_on; o_law; k_head; (case hw => w_witness2)
  k_fill
  refine L2.Fu.endG (l := PySem.Challenge.rw_featureunion_k03_whole_formulas_at_all_s) (n := 63) (k := 8) (x := "_law_script") (sp := L2.Fu.spLaw) rfl (by decide) rfl ⟨rfl, by decide, by decide⟩ (fun w h Y => PySem.W.kIn_of Y) ?F (fun K H a ns hl _ hS => ⟨a, ns, rfl, hS, hl, fun _ => rfl⟩)
  case F =>
    intro w mg fa h KX G hmg
    refine' L2.Fu.all_mk KX G hmg ?aParts ?lParts ?cParts ?kParts ?aIn ?lIn ?cIn ?kIn ?aFeat ?lFeat ?cFeat ?kFeat ?aHolds ?lHolds ?cHolds ?kHolds ?aPos ?lPos ?cPos ?kPos ?aHand ?lHand ?cHand ?kHand ?aTake ?lTake ?cTake ?kTake ?aOf ?lOf ?cOf ?kOf ?aNames ?lNames ?cNames ?kNames ?aForm ?lForm ?cForm ?kForm ?aLHolds ?lLHolds ?cLHolds ?kLHolds ?aSubs ?lSubs ?cSubs ?kSubs ?aMixed ?lMixed ?cMixed ?kMixed ?aRight ?lRight ?cRight ?kRight ?aLaw ?lLaw ?cLaw ?kLaw ?z_len ?z_abs ?z_int ?z_range ?z_max ?z_min ?z_tuple ?z_repr ?z_sorted ?z_set ?z_all ?z_any ?z_list
    (case aParts => k_is)
    (case lParts => k_is)
    (case cParts => k_is)
    (case kParts => k_is)
    (case aIn => k_is)
    (case lIn => k_is)
    (case cIn => k_is)
    (case kIn => k_is)
    (case aFeat => k_is)
    (case lFeat => k_is)
    (case cFeat => k_is)
    (case kFeat => k_is)
    (case aHolds => k_is)
    (case lHolds => k_is)
    (case cHolds => k_is)
    (case kHolds => k_is)
    (case aPos => k_is)
    (case lPos => k_is)
    (case cPos => k_is)
    (case kPos => k_is)
    (case aHand => k_is)
    (case lHand => k_is)
    (case cHand => k_is)
    (case kHand => k_is)
    (case aTake => k_is)
    (case lTake => k_is)
    (case cTake => k_is)
    (case kTake => k_is)
    (case aOf => k_is)
    (case lOf => k_is)
    (case cOf => k_is)
    (case kOf => k_is)
    (case aNames => k_is)
    (case lNames => k_is)
    (case cNames => k_is)
    (case kNames => k_is)
    (case aForm => k_is)
    (case lForm => k_is)
    (case cForm => k_is)
    (case kForm => k_is)
    (case aLHolds => k_is)
    (case lLHolds => k_is)
    (case cLHolds => k_is)
    (case kLHolds => k_is)
    (case aSubs => k_is)
    (case lSubs => k_is)
    (case cSubs => k_is)
    (case kSubs => k_is)
    (case aMixed => k_is)
    (case lMixed => k_is)
    (case cMixed => k_is)
    (case kMixed => k_is)
    (case aRight => k_is)
    (case lRight => k_is)
    (case cRight => k_is)
    (case kRight => k_is)
    (case aLaw => k_is)
    (case lLaw => k_is)
    (case cLaw => k_is)
    (case kLaw => k_is)
    (case z_len => k_is)
    (case z_abs => k_is)
    (case z_int => k_is)
    (case z_range => k_is)
    (case z_max => k_is)
    (case z_min => k_is)
    (case z_tuple => k_is)
    (case z_repr => k_is)
    (case z_sorted => k_is)
    (case z_set => k_is)
    (case z_all => k_is)
    (case z_any => k_is)
    (case z_list => k_is)
