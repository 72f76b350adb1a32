import PyProof.Rows.All
import Wide.All
import OpenK.AllK
import Wide.FinOn
import PyProof.ReprRoads
import KE.KExcIs
import HandS.ForMost
import HandS.Exc
import HandS.ExcOwn
import HandS.ExcInit
import HandS.ExcValue
import HandS.Wide
import HandS.ExcIs
import HandS.ExcField
import HandS.IsInst
import HandS.More
import HandS.SetTxt0
import HandS.SetKeys
import HandS.SetBool
import PyProof.Rows.SetFrom
import HandS.TupAny
import HandS.Text
import HandS.Iter
import HandS.Style
import KE.KRevSl
import HandS.TupMul
import PySem.Challenge.RW_featureunion_k01_formulas_of_anything
set_option Elab.async false
set_option linter.all false
set_option maxRecDepth 100000
set_option maxHeartbeats 4000000
/-! ## Calls where no repr is under way -/
namespace L2.Fu
open PySem PySem.Spec PyProof.Rows

/-- what a def promises to callers around whom no repr runs -/
structure FnG (P : Program) (w : World) (K : PySem.W.Frag) (mg : Str → Option Value) (base : Heap) (CX : CXT) (k : Nat) (f : Addr) (fd : FuncData) (ps : List Str) (sp : Sp) : Prop where
  len : ∀ vs H Q E, sp vs H Q E → vs.length = ps.length
  go : ∀ (A : Around) (outer : List Env) (s : Shared) (H : Hp) (args : Args) (us : List Value) (vs : List V) (Q : VK) (E : XK), A.guards = some [] → Room k A → Env0 P w K mg base A outer s H →
    BindsTo s fd args (ps.zip us) → Vals vs us → sp vs H Q E → codeAny (model P w) A (.call (.ref f) args) (CR CX outer P w H s Q E) s

section
variable {P : Program} {w : World} {K : PySem.W.Frag} {mg : Str → Option Value} {base : Heap}
theorem FnG.of {CX : CXT} {k : Nat} {f : Addr} {fd : FuncData} {ps : List Str} {sp : Sp} (F : FnOk P w K mg base CX k f fd ps sp) : FnG P w K mg base CX k f fd ps sp :=
  ⟨F.len, fun A outer s H args us vs Q E _ hr e b v h => F.run A outer s H args us vs Q E hr e b v h⟩

/-- a def of the text by its body, guards told -/
theorem Fun.okG {x qual : Str} {st : Stmt} {f : Addr} {fd : FuncData} {N ps : List Str} {k : Nat} {sp : Sp} (F : Fun K x qual st f fd) (S : FnScope N ps (defScope st)) (len : ∀ vs H Q E, sp vs H Q E → vs.length = ps.length)
    (body : ∀ (cdv : Value) (A : Around) (outer : List Env) (s : Shared) (H : Hp) (vs : List V) (Q : VK) (E : XK), (A.deeper (envOfC qual (defScope st) s.heap.objs.size f cdv)).guards = some [] →
      Room k (A.deeper (envOfC qual (defScope st) s.heap.objs.size f cdv)) → sp vs H Q E →
      ∃ t, PSs (cxOf CX0 P w K mg base N qual (defScope st) f cdv A outer s H E).nox (defBody st) t ∧ t { nx := fun _ H' => Q .non H', rt := Q } (start N vs) H) : FnG P w K mg base CX0 (k + 1) f fd ps sp := by
  obtain ⟨oc, od, kV, doc, pm, an, cdv, ct, osl, rfl, lk, hcd⟩ := F.ex
  refine ⟨len, fun A outer s H args us vs Q E gd hr e0 hb r hsp => ?_⟩
  have inK : K.In s.heap := e0.mod.kin.keeps fun b o e => (e0.bs b o e).1
  have par : ∀ y ∈ ps.zip us, (defScope st).names.lookup y.1 = some .local ∨ ((defScope st).names.lookup y.1 = some .cell ∧ ((cellsFrom (s.heap.objs.size + 1) (defScope st).names []).lookup y.1).isSome = true) := by
    rintro ⟨n, v⟩ hy
    rcases S.par n (List.of_mem_zip hy).1 with q | q
    · exact .inl q
    · exact .inr ⟨q, PySem.W.cellsFrom_some _ _ _ (.inl q)⟩
  refine codeAny_call_function hr.depth (inK _ _ lk) rfl S.co S.gen rfl (PySem.W.codeRec_of inK hcd) (hb _ _ _ _ ?_)
  refine wpAny_newFunctionEnv_cells S.kind par fun env he s1 x => ?_
  subst he
  refine ⟨(e0.mod.nolimit.keeps fun b o e => (e0.bs b o e).1).keeps x.toInCall.keep, codeAny_func ?_⟩
  obtain ⟨t, ht, hq⟩ := body cdv A outer s H vs Q E gd (hr.deeper _) hsp
  have I0 := inv_start (CX := CX0) (E := E) S hr.hd e0 (len _ _ _ _ hsp) r x
  refine wpAny_mono (ht.nox.run [] s1 (start N vs) H _ I0 hq) (fun fl s' hs => ?_) fun e s' hs => hs
  cases fl with
  | ret u =>
    obtain ⟨v, σ', H', J, rv, q⟩ := hs
    exact ⟨v, H', J.os, J.bare, J.base, J.hok, rv, q⟩
  | next =>
    obtain ⟨σ', H', J, q⟩ := hs
    exact ⟨V.non, H', J.os, J.bare, J.base, J.hok, rfl, q⟩
  | brk => exact hs.elim fun _ z => z.elim fun _ z => z.2.elim
  | cont => exact hs.elim fun _ z => z.elim fun _ z => z.2.elim
end

section
variable {X : Cx} {CX : CXT} {k : Nat} {f : Addr} {fd : FuncData} {ps : List Str} {sp : Sp} {dvs : List V} {ds : List Value} {E : XK} {x : Str} {p pos : Pos} {e : Expr} {es : List Expr} {t : TA}
/-- f(e, ..) where no repr is under way -/
theorem pe_callG (F : FnG X.prog X.w X.K X.mg X.base CX k f fd ps sp) (gd : X.A.guards = some []) (hr : Room k X.A) (hg : Gl X x) (hm : X.mg x = some (.ref f)) (hk : PySem.W.keepIn X.K (.ref f) = true) (hb : Binds X.K fd ps ds) (hd : Vals dvs ds) (hx : Passes CX X E)
    (ha : PA X (e :: es) t) (hdb : (x == ("__debug__" : Str)) = false := by decide) (he : starEach (e :: es) X.env = (false, eval e X.env) :: starEach es X.env := by rfl) (hpl : (backTo pos (starEach es X.env)).any (·.1) = false := by rfl) :
    PE X (.Call (.Name x p) (e :: es) [] pos) (tCall sp dvs E t) := by
  refine ⟨fun pins s σ H Q I h => wpAny_Call_Name_kw (ld_glob I hg hm ?_ hdb)⟩
  refine PySem.W.callWith_K (h₀ := X.base) I.ok.mod.kin hk (thn (ha.run pos pins s σ H _ I h) fun us s1 hh => ?_) he hpl
  obtain ⟨vs, H1, J, r, q⟩ := hh
  refine ⟨J.kIn, ?_⟩
  have rr : Vals (vs ++ dvs) (us ++ ds) := r.append hd
  have ll : (us ++ ds).length = ps.length := rr.length.symm.trans (F.len _ _ _ _ q)
  refine wpAny_call (codeAny_mono (F.go X.A X.stack s1 H1 ⟨us, []⟩ (us ++ ds) (vs ++ dvs) Q E gd hr J.env0 (hb s1 us J.kIn ll) rr q) fun res s2 hq => ?_)
  match res, hq with
  | .error er, hq => exact hx pins σ H1 s1 er s2 J hq
  | .ok (.ret u), hq => exact J.after hq
  | .ok .next, hq => exact hq.elim
  | .ok .brk, hq => exact hq.elim
  | .ok .cont, hq => exact hq.elim
end
end L2.Fu
/-! ## The end of a law over such a def -/
namespace L2.Fu
open PySem PySem.Spec PyProof.Rows

/-- the law's call from a heap in which the script alone is tracked, if it is -/
theorem lawG_at {P : Program} {w : World} {K : PySem.W.Frag} {mg mb : Str → Option Value} {k : Nat} {fa a : Addr} {fd : FuncData} {x : Str} {sp : Sp} {s1 : Shared} {vs : List Value} {H : Hp}
    (KX : K.In s1.heap) (nsG : s1.heap.Ns mainGlobals mg) (nsB : s1.heap.Ns builtinsNs mb) (isB : ∀ x : Str, x ≠ "__name__" → mb x = bootBuiltins x) (lim : s1.heap.NoLimit) (gens : s1.gens = #[])
    (sc : s1.heap.get? a = some { cls := .type "list", data := .seq vs.toArray }) (hr : Room k callerA)
    (F : ∀ base : Heap, K.In base → base.Ns mainGlobals mg → FnG P w K mg base CX0 k fa fd [x] sp) (hbind : ∀ (s : Shared) (u : Value), BindsTo s fd ⟨[u], []⟩ [(x, u)])
    (only : Only H) (hok : HOk P w H s1.heap) (at_a : ∀ b, H b ≠ none → b = a) (offK : H a ≠ none → K.lookup a = none) (hsp : sp [.ref a] H (fun v _ => v = .bl true) fun _ _ _ => False) :
    codeAny (model P w) callerA (.call (.ref fa) ⟨[.ref a], []⟩) (fun r s' => r = .ok (.ret (.bool true)) ∧ OldK s1.heap s'.heap ∧ s'.os = s1.os ∧ AllBare s'.gens) s1 := by
  -- a dict of the heap is not the script
  have plainD : ∀ (b : Addr) (o : Obj) (es : Array DictEntry) (ep : Nat), s1.heap.get? b = some o → o.data = .dict es ep → H b = none := by
    intro b o es ep e d
    cases q : H b with
    | none => rfl
    | some u =>
      obtain rfl : b = a := at_a b (by rw [q]; exact Option.some_ne_none u)
      rw [sc] at e
      cases e
      cases (show Data.seq vs.toArray _ = Data.dict es ep from d)
  have nsHid : ∀ (b : Addr) (m : Str → Option Value), s1.heap.Ns b m → (hidT s1.heap H).Ns b m := by
    rintro b m ⟨o, es, ep, e, d, r⟩
    exact ⟨o, es, ep, hidT_get e (plainD b o es ep e d), d, r⟩
  have inHid : K.In (hidT s1.heap H) := by
    intro b o e
    refine hidT_get (KX b o e) ?_
    cases q : H b with
    | none => rfl
    | some u =>
      have nn : H b ≠ none := by rw [q]; exact Option.some_ne_none u
      obtain rfl : b = a := at_a b nn
      rw [offK nn] at e
      cases e
  obtain ⟨mc, c1, c2⟩ := lim
  have modH : Mod K mg (hidT s1.heap H) := ⟨inHid, nsHid _ _ nsG, ⟨mb, nsHid _ _ nsB, isB⟩, ⟨mc, nsHid _ _ c1, c2⟩⟩
  have e0 : Env0 P w K mg (hidT s1.heap H) callerA [] s1 H :=
    { frames := rfl, mod := modH, bs := fun b o e => of_hidT e, bsz := Nat.le_of_eq (hidT_size _ _), funs := trivial, frf := (fun b z => nomatch z), hok := hok, bare := .of_eq gens }
  refine codeAny_mono ((F _ inHid (nsHid _ _ nsG)).go callerA [] s1 H ⟨[.ref a], []⟩ [.ref a] [.ref a] _ _ rfl hr e0 (hbind s1 (.ref a)) (.cons rfl .nil) hsp) fun r s' h => ?_
  match r, h with
  | .error e, h => exact h.elim
  | .ok .next, h => exact h.elim
  | .ok .brk, h => exact h.elim
  | .ok .cont, h => exact h.elim
  | .ok (.ret u), h =>
    obtain ⟨v, H', os, bare, un, hok', r', q⟩ := h
    obtain rfl : v = V.bl true := q
    obtain rfl : u = Value.bool true := r'
    refine ⟨rfl, OldK.of_keep fun b o e => ?_, os, bare⟩
    rcases only b with z | ⟨ob, xs, z⟩
    · exact un.keep b o e z (fun t => nomatch t) fun t => nomatch t
    · have old := (hok b _ z).1
      rw [e] at old
      cases old
      exact (hok' b _ (un.frzs b o _ z)).1

theorem endG {l : PySem.W.OpenLaw} {n k : Nat} {q : Program} {loose : List Str} {XP : (Str → Option Value) → Heap → Prop} {YP : World → Heap → Prop} {d : DefRec} {K : Params → PySem.W.Frag} {sp : PySem.W.Frag → Sp} {x : Str}
    (hn : l.most = some n) (hn2 : n ≤ sizeLine) (hdf : d.params.defaults = []) (hr : Room k callerA)
    (hY : ∀ (w : World) (h : Heap), YP w h → (K w.params).In h)
    (F : ∀ (w : World) (mg : Str → Option Value) (fa : Addr) (h : Heap), (K w.params).In h → h.Ns mainGlobals mg → mg d.name = some (.ref fa) →
      ∃ fd : FuncData, (∀ (s : Shared) (u : Value), BindsTo s fd ⟨[u], []⟩ [(x, u)]) ∧
        ∀ base : Heap, (K w.params).In base → base.Ns mainGlobals mg → FnG l.prog w (K w.params) mg base CX0 k fa fd [x] (sp (K w.params)))
    (hsp : ∀ (K : PySem.W.Frag) (H : Hp) (a : Addr) (ns : List Int), ns.length ≤ n → Only H → SqL K H a (ns.map V.int) → sp K [.ref a] H (fun v _ => v = .bl true) fun _ _ _ => False) :
    PySem.W.WalkO q loose XP YP l.row.toRowW d [] (fun f vs => PySem.call f vs) := by
  refine Att.attach_call hn hdf fun w s0 s1 mg mb fa o pm cd doc a vs ns G Y ho hd hcd hmg hobj hints hlen hg => ?_
  have KX := hY w _ Y
  obtain ⟨fd, hb, hF⟩ := F w mg fa _ KX G.T.g hmg
  have rv := vals_ints hints
  have sz : ns.length ≤ sizeLine := Nat.le_trans hlen hn2
  have lawAt := fun H a1 a2 a3 a4 a5 => lawG_at (H := H) KX G.T.g G.T.b G.T.builtins G.T.nolimit hg hobj hr hF hb a1 a2 a3 a4 a5
  cases hk : (K w.params).lookup a with
  | some ob =>
    have e := KX a ob hk
    rw [hobj] at e
    cases e
    have hS : SqL (K w.params) (fun _ => none) a (ns.map V.int) := .inr ⟨_, vs.toArray, _, hk, rfl, rfl, rfl, by rw [List.size_toArray, hints.length]; exact sz, by simpa using rv⟩
    exact lawAt (fun _ => none) (fun _ => .inl rfl) (fun b u z => nomatch z) (fun b z => absurd rfl z) (fun z => absurd rfl z) (hsp _ _ a ns hlen (fun _ => .inl rfl) hS)
  | none =>
    have fz : ObjOk l.prog w (upd (fun _ => none) a (.frz { cls := .type "list", data := .seq vs.toArray } (.lst (ns.map V.int)))) s1.heap a (.frz { cls := .type "list", data := .seq vs.toArray } (.lst (ns.map V.int))) :=
      ⟨hobj, by rw [List.length_map]; exact sz, vs, _, rv, hobj⟩
    have only : Only (upd (fun _ => none) a (.frz { cls := .type "list", data := .seq vs.toArray } (.lst (ns.map V.int)))) := fun b => by
      by_cases hb : b = a
      · exact .inr ⟨_, _, by rw [hb]; exact upd_same⟩
      · exact .inl (upd_ne hb)
    refine lawAt _ only (fun b u z => ?_) (fun b z => ?_) (fun _ => hk) (hsp _ _ a ns hlen only (.inl (.inr ⟨_, upd_same⟩)))
    · by_cases hb : b = a
      · subst hb
        rw [upd_same] at z
        cases z
        exact fz
      · rw [upd_ne hb] at z
        cases z
    · by_cases hb : b = a
      · exact hb
      · exact absurd (upd_ne hb) z
end L2.Fu
/-! ## Data, and how it is shown -/
namespace L2.Fu
open PySem PySem.Spec PyProof.Rows

def keyD : Key → PyData
  | .inl i => .int i
  | .inr x => .str x
mutual
/-- v is read as d in the abstract heap H; every list, tuple and dict of it is tracked -/
inductive Da (H : Hp) : V → PyData → Prop
  | non : Da H .non .none
  | bl (b : Bool) : Da H (.bl b) (.bool b)
  | int (i : Int) : Da H (.int i) (.int i)
  | str (x : Str) : Da H (.str x) (.str x)
  | lst {a : Addr} {xs : List V} {ds : List PyData} : H a = some (.lst xs) → a ≠ sysModules → DaAll H xs ds → Da H (.ref a) (.list ds)
  | tup {a : Addr} {xs : List V} {ds : List PyData} : H a = some (.tup xs) → DaAll H xs ds → Da H (.ref a) (.tuple ds)
  | dic {a : Addr} {kvs : List (Key × V)} {ds : List PyData} : H a = some (.dK kvs) → DaAll H (kvs.map (·.2)) ds → Da H (.ref a) (.dict ((kvs.map fun kv => keyD kv.1).zip ds))
inductive DaAll (H : Hp) : List V → List PyData → Prop
  | nil : DaAll H [] []
  | cons {v : V} {vs : List V} {d : PyData} {ds : List PyData} : Da H v d → DaAll H vs ds → DaAll H (v :: vs) (d :: ds)
end
theorem DaAll.length {H : Hp} : ∀ {vs : List V} {ds : List PyData}, DaAll H vs ds → vs.length = ds.length
  | _, _, .nil => rfl
  | _, _, .cons _ t => by rw [List.length_cons, List.length_cons, DaAll.length t]
theorem Da.mono {H H' : Hp} (s : Same H H') {v : V} {d : PyData} (h : Da H v d) : Da H' v d :=
  Da.rec (motive_1 := fun v d _ => Da H' v d) (motive_2 := fun vs ds _ => DaAll H' vs ds) .non .bl .int .str (fun e n _ q => .lst (s _ _ e) n q) (fun e _ q => .tup (s _ _ e) q) (fun e _ q => .dic (s _ _ e) q) .nil (fun _ _ a b => .cons a b) h
theorem DaAll.mono {H H' : Hp} (s : Same H H') {vs : List V} {ds : List PyData} (h : DaAll H vs ds) : DaAll H' vs ds := by
  induction h using DaAll.rec (motive_1 := fun v d _ => True) with
  | nil => exact .nil
  | cons a _ _ b => exact .cons (a.mono s) b
  | _ => trivial

section
variable {X : Cx} {pins : List (Addr × Obj)} {σ : St} {H : Hp} {s : Shared}
/-- how a tracked dict is read -/
theorem dict_reads {P : Program} {w : World} {h : Heap} : ∀ {es : List DictEntry} {kvs : List (Key × Value)} {ks : List (Key × V)}, PySem.Pairs (mixKind P w) es kvs → KV ks kvs →
    ReadsAll h (es.map (·.key)) (ks.map fun kv => keyD kv.1) [] ∧ Vals (ks.map (·.2)) (es.map (·.val))
  | _, _, _, .nil, .nil => ⟨.nil, .nil⟩
  | _, _, _, .cons (e := e) (kv := kv) h1 h2 t, .cons (a := k) r t' => by
    obtain ⟨q1, q2⟩ := dict_reads (h := h) t t'
    have hk : keyIs kv.1 e.key = true := h1
    rw [← r.1] at hk
    have rd : Reads h e.key (keyD k.1) [] := by
      rcases keyIs_shape hk with ⟨i, u, e1, e2⟩ | ⟨x, u, e1, e2⟩
      · rw [e1, e2]; exact .int i u
      · rw [e1, e2]; exact .str x u
    exact ⟨ReadsAll.cons (as := []) (bs := []) rd q1, .cons (show RelV k.2 e.val by rw [h2]; exact r.2) q2⟩
theorem zip_fst : ∀ {α β : Type} (as : List α) (bs : List β), as.length = bs.length → (as.zip bs).map (·.1) = as
  | _, _, [], _, _ => rfl
  | _, _, a :: as, [], h => nomatch h
  | _, _, a :: as, b :: bs, h => by rw [List.zip_cons_cons, List.map_cons, zip_fst as bs (Nat.succ.inj h)]
theorem zip_snd : ∀ {α β : Type} (as : List α) (bs : List β), as.length = bs.length → (as.zip bs).map (·.2) = bs
  | _, _, [], [], _ => rfl
  | _, _, [], b :: bs, h => nomatch h
  | _, _, a :: as, [], h => nomatch h
  | _, _, a :: as, b :: bs, h => by rw [List.zip_cons_cons, List.map_cons, zip_snd as bs (Nat.succ.inj h)]
theorem Da.reads (I : Inv X pins σ H s) {v : V} {d : PyData} (h : Da H v d) : ∀ u : Value, RelV v u → ∃ as, Reads s.heap u d as ∧ sysModules ∉ as := by
  refine Da.rec (motive_1 := fun v d _ => ∀ u : Value, RelV v u → ∃ as, Reads s.heap u d as ∧ sysModules ∉ as) (motive_2 := fun vs ds _ => ∀ us : List Value, Vals vs us → ∃ as, ReadsAll s.heap us ds as ∧ sysModules ∉ as)
    ?_ ?_ ?_ ?_ ?_ ?_ ?_ ?_ ?_ h
  · intro u r
    cases (show u = Value.none from r)
    exact ⟨[], .none, fun z => nomatch z⟩
  · intro b u r
    cases (show u = Value.bool b from r)
    exact ⟨[], .bool b, fun z => nomatch z⟩
  · intro i u r
    obtain ⟨t, rfl⟩ := (show ∃ t, u = Value.int i t from r)
    exact ⟨[], .int i t, fun z => nomatch z⟩
  · intro x u r
    obtain ⟨t, rfl⟩ := (show ∃ t, u = Value.str x t from r)
    exact ⟨[], .str x t, fun z => nomatch z⟩
  · intro a xs ds e n _ ih u r
    cases (show u = Value.ref a from r)
    obtain ⟨_, its, m, rv, ho⟩ := (show ObjOk X.prog X.w H s.heap a (.lst xs) from I.hok a _ e)
    obtain ⟨as, q, z⟩ := ih its rv
    exact ⟨a :: as, .list ho rfl rfl (by simpa using q), fun t => (List.mem_cons.mp t).elim (fun y => n y.symm) z⟩
  · intro a xs ds e _ ih u r
    cases (show u = Value.ref a from r)
    obtain ⟨_, its, rv, o, ho, hc, m, hd⟩ := (show ObjOk X.prog X.w H s.heap a (.tup xs) from I.hok a _ e)
    obtain ⟨as, q, z⟩ := ih its rv
    exact ⟨as, .tuple ho hc hd (by simpa using q), z⟩
  · intro a kvs ds e hall ih u r
    cases (show u = Value.ref a from r)
    obtain ⟨_, ny, vs, rv, o, es, ep, ho, hx, hd, _, pr, _⟩ := (show ObjOk X.prog X.w H s.heap a (.dK kvs) from I.hok a _ e)
    obtain ⟨q1, q2⟩ := dict_reads (h := s.heap) pr rv
    obtain ⟨as, q3, z⟩ := ih _ q2
    have hl : (kvs.map fun kv => keyD kv.1).length = ds.length := by
      have := hall.length
      rw [List.length_map] at this ⊢
      exact this
    refine ⟨a :: [] ++ as, .dict ho hx.1 hd (by rw [zip_fst _ _ hl]; exact q1) (by rw [zip_snd _ _ hl]; exact q3), fun t => ?_⟩
    rcases List.mem_cons.mp (show sysModules ∈ a :: as from t) with y | y
    · exact absurd y.symm (fun y' => by rw [y'] at ny; exact absurd ny (by decide))
    · exact z y
  · intro us r
    cases r
    exact ⟨[], .nil, fun z => nomatch z⟩
  · intro v vs d ds _ _ i1 i2 us r
    cases r with
    | cons r1 r2 =>
      obtain ⟨as, q1, z1⟩ := i1 _ r1
      obtain ⟨bs, q2, z2⟩ := i2 _ r2
      exact ⟨as ++ bs, .cons q1 q2, fun t => (List.mem_append.mp t).elim z1 z2⟩
end

/-- data that repr shows: what is shown has at most n signs, nested at most k deep -/
structure Shows (d : PyData) (n k : Nat) : Prop where
  can : d.showable = true
  few : d.shown.length ≤ n
  flat : d.depth ≤ k
/-- repr(x), x data, where no repr is under way -/
def rRepr : List V → Hp → VK → Prop := fun xs H Q => ∃ (x : V) (d : PyData), xs = [x] ∧ Da H x d ∧ Shows d 16000000 60 ∧ Q (.str d.shown) H
theorem call_reprD {X : Cx} (gd : X.A.guards = some []) (hu : X.A.units + 64 < cLine) : CallR X (.builtin "repr") rRepr := by
  intro pins s σ H xs us Q I r h
  obtain ⟨x, d, rfl, hd, sh, q⟩ := h
  have hz : d.shown.length ≤ sizeLine := Nat.le_trans sh.few (by rw [sizeLine_eq]; decide)
  have hdp := sh.flat
  cases r with
  | @cons _ u _ ur ru rn =>
    cases rn
    obtain ⟨as, rd, hsm⟩ := hd.reads I u ru
    have can := sh.can
    cases hd with
    | non =>
      cases (show u = Value.none from ru)
      exact PySem.P.repr_of_none ⟨.str _, H, I.tok _, ⟨_, rfl⟩, q⟩
    | bl b =>
      cases (show u = Value.bool b from ru)
      exact PySem.P.repr_of_bool ⟨.str _, H, I.tok _, ⟨_, rfl⟩, q⟩
    | int i =>
      obtain ⟨t, rfl⟩ := (show ∃ t, u = Value.int i t from ru)
      exact PySem.P.repr_of_int (by simpa [PyData.showable] using can) ⟨.str _, H, I.tok _, ⟨_, rfl⟩, q⟩
    | str x =>
      obtain ⟨t, rfl⟩ := (show ∃ t, u = Value.str x t from ru)
      exact PySem.P.repr_of_str ⟨.str _, H, I.tok _, ⟨_, rfl⟩, q⟩ hz
    | lst e n ha =>
      cases ru
      exact repr_of_reads' rd can (fun _ => hsm) gd (by omega) (fun _ _ z => z) (fun h' t tk hk => ⟨.str _, H, I.kept hk, ⟨_, rfl⟩, q⟩) hz
    | tup e ha =>
      cases ru
      exact repr_of_reads' rd can (fun _ => hsm) gd (by omega) (fun _ _ z => z) (fun h' t tk hk => ⟨.str _, H, I.kept hk, ⟨_, rfl⟩, q⟩) hz
    | dic e ha =>
      cases ru
      exact repr_of_reads' rd can (fun _ => hsm) gd (by omega) (fun _ _ z => z) (fun h' t tk hk => ⟨.str _, H, I.kept hk, ⟨_, rfl⟩, q⟩) hz

/-- a new list, told not to be the table of modules -/
def tLstN (t : TA) : TE := fun σ H Q => t σ H fun xs H1 => xs.length ≤ sizeLine ∧ ∀ p, H1 p = none → p ≠ sysModules → Q (.ref p) (upd H1 p (.lst xs))
theorem new_ne {X : Cx} {pins : List (Addr × Obj)} {σ : St} {H : Hp} {s : Shared} (I : Inv X pins σ H s) : s.heap.objs.size ≠ sysModules := by
  obtain ⟨o, _, _, e, _⟩ := I.ok.mod.glob
  have h3 : mainGlobals < X.base.objs.size := Heap.lt_size e
  have h4 : X.base.objs.size ≤ s.heap.objs.size := Nat.le_trans I.ok.bsz I.sz
  have h5 : sysModules < mainGlobals := by decide
  exact Nat.ne_of_gt (Nat.lt_of_lt_of_le (Nat.lt_trans h5 h3) h4)
theorem pe_lstN {X : Cx} {es : List Expr} {t : TA} {pos : Pos} (h : PA X es t) : PE X (.List es pos) (tLstN t) := by
  refine ⟨fun pins s σ H Q I hq => wpAny_List_spliced (thn (h.run pos pins s σ H _ I hq) fun us s1 hh => ?_)⟩
  obtain ⟨xs, H1, J, r, z, q⟩ := hh
  refine ⟨by rw [← r.length]; exact z, .ref s1.heap.objs.size, upd H1 s1.heap.objs.size (.lst xs), ?_, rfl, q _ (J.hok.fresh (Nat.le_refl _)) (new_ne J)⟩
  exact J.laid (t' := s1.toks) (fun b u e => Heap.get?_push_of_some _ e) (Nat.le_refl _) ⟨z, us, 0, r, Heap.get?_push_size _ rfl⟩
end L2.Fu
/-! ## Exceptions held as values -/
namespace L2.Fu
open PySem PySem.Spec PyProof.Rows

/-- C(e, ..) as a value: the exception stays tracked -/
def tMkV (C : Addr) (sp : Sp) (ta : TA) : TE := fun σ H Q => ta σ H fun vs H1 => vs.length ≤ 1000 ∧ ∀ a, H1 a = none → sp (.ref a :: vs) (upd H1 a (exo a C none)) (fun v H2 => v = .non ∧ Q (.ref a) H2) (fun _ _ _ => False)
theorem pe_excI {X : Cx} {x : Str} {C fI : Addr} {k : Nat} {fd : FuncData} {ps : List Str} {sp : Sp} {e : Expr} {es : List Expr} {ta : TA} {p pos : Pos} (T : OexC X.K C) (iC : PySem.W.findIn X.K (.ref C) "__init__" = some (some (.ref fI))) (tI : PySem.W.typeIn X.K (.ref fI) = some (.type "function"))
    (F1 : FnOk X.prog X.w X.K X.mg X.base CX0 k fI fd ps sp) (hr : Room (k + 1) X.A) (hb : Binds X.K fd ps []) (hg : Gl X x) (hm : X.mg x = some (.ref C)) (ha : PA X (e :: es) ta)
    (hdb : (x == ("__debug__" : Str)) = false := by decide) (he : starEach (e :: es) X.env = (false, eval e X.env) :: starEach es X.env := by rfl) (hpl : (backTo pos (starEach es X.env)).any (·.1) = false := by rfl) :
    PE X (.Call (.Name x p) (e :: es) [] pos) (tMkV C sp ta) := by
  refine ⟨fun pins s σ H Q I h => wpAny_Call_Name_kw (ld_glob I hg hm ?_ hdb)⟩
  obtain ⟨nm, q, N, bs, bm, sn, sub, ab, col, dd, k0, k1, k2, k3, k5, hC, hbm⟩ := T.cls
  refine PySem.W.callWith_K (h₀ := X.base) I.ok.mod.kin T.kC (thn (ha.run pos pins s σ H _ I h) fun us s1 hh => ?_) he hpl
  obtain ⟨vs, H1, J, r, hz, q1⟩ := hh
  refine ⟨J.kIn, ?_⟩
  show wpAny _ _ (call (.ref C) us) _ _ _
  obtain ⟨hp, g, dr, tk, os⟩ := s1
  have grow : ∀ b o, hp.get? b = some o → ((hp.push (PySem.W.kdv_tup us)).push (PySem.HandSPX.excO C hp.objs.size)).get? b = some o := fun b o e => Heap.get?_push_of_some _ (Heap.get?_push_of_some _ e)
  have new : ((hp.push (PySem.W.kdv_tup us)).push (PySem.HandSPX.excO C hp.objs.size)).get? (hp.objs.size + 1) = some (PySem.HandSPX.excO C hp.objs.size) := by heap_get
  have J2 : Inv X pins σ (upd H1 (hp.objs.size + 1) (exo (hp.objs.size + 1) C none)) ⟨(hp.push (PySem.W.kdv_tup us)).push (PySem.HandSPX.excO C hp.objs.size), g, dr, tk, os⟩ :=
    J.laid (t' := tk) (a := hp.objs.size + 1) (o := exo (hp.objs.size + 1) C none) (h' := (hp.push (PySem.W.kdv_tup us)).push (PySem.HandSPX.excO C hp.objs.size)) grow (Nat.le_succ _) (exo_ok new)
  have hq := q1 (hp.objs.size + 1) (J.hok.fresh (Nat.le_succ _))
  have rr : Vals (V.ref (hp.objs.size + 1) :: vs) (Value.ref (hp.objs.size + 1) :: us) := .cons rfl r
  have ll : ((Value.ref (hp.objs.size + 1) :: us) ++ ([] : List Value)).length = ps.length := by
    rw [List.append_nil, ← rr.length]
    exact F1.len _ _ _ _ hq
  have hb2 := hb ⟨(hp.push (PySem.W.kdv_tup us)).push (PySem.HandSPX.excO C hp.objs.size), g, dr, tk, os⟩ (Value.ref (hp.objs.size + 1) :: us) J2.kIn ll
  rw [List.append_nil] at hb2
  have few : us.length ≤ sizeLine := by
    rw [← Paired.length r, sizeLine_eq]
    omega
  refine wpAny_call (PySem.HandSPX.call_own F.excBase_ValueError (fun Y => PySem.HandSPX.refsVE_contains Y bm hbm) (J.kIn _ _ hC) (PySem.W.looks_findIn J.kIn iC) (fun self => PySem.W.bind_fn J.kIn self tI) few
    (codeAny_mono (F1.run _ X.stack _ _ ⟨Value.ref (hp.objs.size + 1) :: us, []⟩ (Value.ref (hp.objs.size + 1) :: us) _ _ (fun _ _ _ => False) (hr.make C us []) (J2.env0.make C us []) hb2 rr hq) fun res s2 hq2 => ?_))
  match res, hq2 with
  | .error er, hq2 => exact hq2.elim
  | .ok .next, hq2 => exact hq2.elim
  | .ok .brk, hq2 => exact hq2.elim
  | .ok .cont, hq2 => exact hq2.elim
  | .ok (.ret u), hq2 =>
    obtain ⟨v, H2, J3, rv, ev, q3⟩ := J2.after hq2
    subst ev
    exact ⟨rv, .ref (hp.objs.size + 1), H2, J3, rfl, q3⟩

/-- C(), an own exception class without own __init__ -/
theorem pe_exc0 {X : Cx} {C : Addr} {bmB : List Value} {B newId initId : String} {x : Str} {p pos : Pos} (F : ExcBaseFacts B newId initId bmB) (q : PySem.W.excIn X.K C bmB newId = true) (gC : X.mg x = some (.ref C)) (kC : PySem.W.keepIn X.K (.ref C) = true) (hg : Gl X x)
    (hdb : (x == ("__debug__" : Str)) = false := by decide) : PE X (.Call (.Name x p) [] [] pos) (fun σ H Q => ∀ a, H a = none → Q (.ref a) (upd H a (ExO (.ref C) a))) := by
  refine ⟨fun pins s σ H Q I h => wpAny_Call_Name_kw (ld_glob I hg gC ?_ hdb)⟩
  refine PySem.W.callWith_K0 I.kIn kC ?_
  obtain ⟨bm, N, nm, qn, bs, hdct, sn, sub, ab, col, dd, k0, k1, k2, k3, k5, mN, hC, hN, hni, T⟩ := exc_obj I.kIn q
  refine wpAny_call_exc_subT F T hC hN hni (fun h' a hm => ?_) (by show 0 ≤ sizeLine; exact Nat.zero_le _)
  have free : H a = none := I.hok.gone hm.new
  obtain ⟨t, ht, _, _⟩ := hm.there
  exact ⟨.ref a, upd H a (ExO (.ref C) a), I.laidN hm.keeps hm.new free (exO_ok ht ⟨rfl, rfl⟩ rfl rfl rfl (show 4 < 6 by decide)), rfl, h a free⟩

/-- e.f of an exception that is held -/
def tXv (K : PySem.W.Frag) (f : Str) (te : TE) : TE := fun σ H Q => te σ H fun x H1 => ∃ (a C dx : Addr) (fs : List (Str × V)) (v : V), x = .ref a ∧ XfC K C ∧ PySem.W.findIn K (.ref C) f = some none ∧
  H1 a = some (exo a C (some dx)) ∧ H1 dx = some (exd dx fs) ∧ fs.lookup f = some v ∧ Q v H1
theorem pe_xv {X : Cx} {e : Expr} {te : TE} {pos : Pos} {f : Str} (he : PE X e te) (hb : attributeBase e f X.env (eval e X.env) = eval e X.env := by rfl) : PE X (.Attribute e f pos) (tXv X.K f te) := by
  refine ⟨fun pins s σ H Q I h => attr_of hb (thn (he.run pins s σ H _ I h) fun u s1 hh => ?_)⟩
  obtain ⟨x, H1, J, rx, a, C, dx, fs, v, rfl, T, no, ea, ed, l, q⟩ := hh
  cases rx
  obtain ⟨t1, ho⟩ := exo_at J.hok ea
  obtain ⟨mA, hns, rel⟩ := exd_at J.hok ed
  obtain ⟨od, hod, hl⟩ := lookIn_ns hns
  obtain ⟨z, hz, rz⟩ := RelO.some_of (v := v) (o := mA f) (by rw [← l]; exact rel f)
  have W : PySem.W.InstAt s1.heap a { cls := .ref C, dict := some dx, data := .fields #[.ref t1, .none, .none, .none, .bool false, .none] } C (some od) := ⟨ho, rfl, rfl, hod⟩
  exact HandSPX.exc_get J.kIn W T.ga T.gg T.exC (PySem.W.findObj_own T.hdC no rfl (by rw [hl, hz])) (handed_of rz) ⟨v, H1, J.tok _, rz, q⟩

/-- at a stands an exception of the class at D -/
def IsX (H : Hp) (a D : Addr) : Prop := (∃ (dx : Addr) (fs : List (Str × V)), H a = some (exo a D (some dx)) ∧ H dx = some (exd dx fs)) ∨ H a = some (ExO (.ref D) a)
theorem IsX.inst {X : Cx} {pins : List (Addr × Obj)} {σ : St} {H : Hp} {s : Shared} {a D : Addr} (I : Inv X pins σ H s) (h : IsX H a D) : ∃ ox od, PySem.W.InstAt s.heap a ox D od := by
  rcases h with ⟨dx, fs, ea, ed⟩ | ea
  · obtain ⟨t1, ho⟩ := exo_at I.hok ea
    obtain ⟨mA, hns, _⟩ := exd_at I.hok ed
    obtain ⟨od, hod, _⟩ := lookIn_ns hns
    exact ⟨_, some od, ho, rfl, rfl, hod⟩
  · obtain ⟨⟨oe, vs, ho, hz, hd, _⟩, _, _⟩ := I.hok a _ ea
    obtain ⟨oc, odd, oda, osl⟩ := oe
    obtain ⟨h1, h2⟩ := hz
    dsimp only at h1 h2 hd
    subst h1 h2 hd
    exact ⟨_, none, ho, rfl, rfl, trivial⟩
/-- isinstance(x, c), x an exception that is held -/
def rIsX (K : PySem.W.Frag) : List V → Hp → VK → Prop := fun xs H Q => ∃ (a D : Addr) (c : V) (cv : Value) (b : Bool), xs = [.ref a, c] ∧ IsX H a D ∧ ExcC K D ∧ ClsV c cv ∧ PySem.W.kitOne K (.ref D) cv = some b ∧ Q (.bl b) H
theorem call_isX {X : Cx} : CallR X (.builtin "isinstance") (rIsX X.K) := by
  intro pins s σ H xs us Q I r h
  obtain ⟨a, D, c, cv, b, rfl, hx, C, k, e, q⟩ := h
  obtain ⟨u1, u2, rfl, r1, r2⟩ := vals2 r
  cases (show u1 = Value.ref a from r1)
  have e2 := k.eq r2
  subst e2
  obtain ⟨ox, od, J⟩ := hx.inst I
  obtain ⟨cd, hc, _⟩ := PySem.W.any_some C.hd
  exact PySem.W.kia_one (PySem.W.kitx_exc (by rw [hc]; rfl) C.hg C.hk C.hs C.ha C.hn C.ht C.hm) I.kIn J e (fun z => nomatch z) fun tk => ⟨.bl b, H, I.tok tk, rfl, q⟩
end L2.Fu
/-! ## The law's hand: a number and a count, from which it draws -/
namespace L2.Fu
open PySem PySem.Spec PyProof.Rows

/-- at p stands a hand of which at most n draws were taken; all of H0, where p is not, stands as it was -/
def Hand (H0 H : Hp) (p : Addr) (n : Nat) : Prop := Same H0 H ∧ H0 p = none ∧ ∃ g a c : Int, H p = some (.lst [.int g, .int a, .int c]) ∧ 0 ≤ a ∧ a < 2147483647 ∧ 0 ≤ c ∧ c ≤ (n : Int)
theorem Hand.at {H0 H : Hp} {p : Addr} {n : Nat} (h : Hand H0 H p n) : ∃ xs, H p = some (.lst xs) := by
  obtain ⟨_, _, g, a, c, e, _⟩ := h
  exact ⟨_, e⟩
theorem Hand.ne {H0 H : Hp} {p q : Addr} {n : Nat} (h : Hand H0 H p n) (f : H q = none) : q ≠ p := by
  obtain ⟨_, e⟩ := h.at
  exact fun z => by rw [z, e] at f; cases f
theorem Hand.mono {H0 H : Hp} {p : Addr} {m n : Nat} (h : Hand H0 H p m) (l : m ≤ n) : Hand H0 H p n := by
  obtain ⟨s, z, g, a, c, e, a0, a1, c0, c1⟩ := h
  exact ⟨s, z, g, a, c, e, a0, a1, c0, by omega⟩
/-- an object elsewhere is laid or changed: it is told -/
theorem Hand.upd {H0 H : Hp} {p q : Addr} {n : Nat} {o : HO} (h : Hand H0 H p n) (ne : q ≠ p) : Hand (upd H0 q o) (upd H q o) p n := by
  obtain ⟨s, z, g, a, c, e, r⟩ := h
  refine ⟨fun b u k => ?_, by rw [upd_ne (Ne.symm ne)]; exact z, g, a, c, by rw [upd_ne (Ne.symm ne)]; exact e, r⟩
  by_cases hb : b = q
  · subst hb
    rw [upd_same] at k ⊢
    exact k
  · rw [upd_ne hb] at k ⊢
    exact s b u k
/-- an object elsewhere that H0 doesn't tell of is laid or changed -/
theorem Hand.off {H0 H : Hp} {p q : Addr} {n : Nat} {o : HO} (h : Hand H0 H p n) (ne : q ≠ p) (f : H0 q = none) : Hand H0 (L2.upd H q o) p n := by
  obtain ⟨s, z, g, a, c, e, r⟩ := h
  refine ⟨fun b u k => ?_, z, g, a, c, by rw [upd_ne (Ne.symm ne)]; exact e, r⟩
  have hb : b ≠ q := fun t => by rw [t, f] at k; cases k
  rw [upd_ne hb]
  exact s b u k
/-- an object elsewhere is told of -/
theorem Hand.own {H0 H : Hp} {p q : Addr} {n : Nat} {o : HO} (h : Hand H0 H p n) (ne : q ≠ p) (f : H q = some o) : Hand (L2.upd H0 q o) H p n := by
  obtain ⟨s, z, r⟩ := h
  refine ⟨fun b u k => ?_, by rw [upd_ne (Ne.symm ne)]; exact z, r⟩
  by_cases hb : b = q
  · subst hb
    rw [upd_same] at k
    rw [f]
    exact k
  · rw [upd_ne hb] at k
    exact s b u k
theorem same_new {H : Hp} {q : Addr} {o : HO} (f : H q = none) : Same H (upd H q o) := fun b u k => by
  rw [upd_ne (ne_of_none k f)]
  exact k
/-- H without what stands at p -/
theorem same_del {H0 H : Hp} {p : Addr} (s : Same H0 H) (f : H0 p = none) : Same H0 (delH H p) := fun b u k => by
  have hb : b ≠ p := fun t => by rw [t, f] at k; cases k
  rw [delH_ne hb]
  exact s b u k
theorem del_sub {H : Hp} {p : Addr} : Same (delH H p) H := fun b u k => by
  by_cases hb : b = p
  · rw [hb, delH_same] at k
    cases k
  · rw [delH_ne hb] at k
    exact k
theorem Hand.full {H0 H : Hp} {p : Addr} {n : Nat} (h : Hand H0 H p n) : Hand (delH H p) H p n := by
  obtain ⟨_, _, r⟩ := h
  exact ⟨del_sub, delH_same, r⟩

/-- _law_hand(script, k) -/
def spHand (K : PySem.W.Frag) : Sp := fun vs H Q _ => ∃ (a : Addr) (ns : List Int) (k : Int), vs = [.ref a, .int k] ∧ SqL K H a (ns.map V.int) ∧ 0 ≤ k ∧ k ≤ 1000 ∧ ∀ (H' : Hp) (p : Addr), Hand H H' p 0 → Q (.ref p) H'
/-- _law_take(hand, m) -/
def spTake : Sp := fun vs H Q _ => ∃ (H0 : Hp) (p : Addr) (n : Nat) (m : Int), vs = [.ref p, .int m] ∧ 0 < m ∧ m < 2 ^ 60 ∧ n < 1000000000 ∧ Hand H0 H p n ∧ ∀ (H' : Hp) (d : Int), 0 ≤ d → d < m → Hand H0 H' p (n + 1) → Q (.int d) H'
/-- _law_of(hand, some) -/
def spOf (K : PySem.W.Frag) : Sp := fun vs H Q _ => ∃ (H0 : Hp) (p l : Addr) (n : Nat) (xs : List V), vs = [.ref p, .ref l] ∧ SqL K H0 l xs ∧ xs ≠ [] ∧ xs.length ≤ 1000000 ∧ n < 1000000000 ∧ Hand H0 H p n ∧ ∀ (H' : Hp) (v : V), v ∈ xs → Hand H0 H' p (n + 1) → Q v H'

theorem bit_small (b : Bool) : -(2 ^ 64) < (if b = true then (1 : Int) else 0) ∧ (if b = true then (1 : Int) else 0) < 2 ^ 64 := by cases b <;> decide
theorem big_pos : (0 : Int) < (10 : Int) ^ (60 : Int).toNat * (10 : Int) ^ (60 : Int).toNat * (10 : Int) ^ (60 : Int).toNat := by decide +kernel
theorem big_one : ((10 : Int) ^ (60 : Int).toNat).natAbs < 2 ^ 200 := by decide +kernel
theorem big_two : ((10 : Int) ^ (60 : Int).toNat * (10 : Int) ^ (60 : Int).toNat).natAbs < 2 ^ 400 := by decide +kernel
theorem prime_at (c : Int) (h0 : 0 ≤ c) : ∃ pr : Int, atI [V.int 2147483647, V.int 2147483629, V.int 2147483587, V.int 2147483579, V.int 2147483563] (c % 5) = some (V.int pr) ∧ 0 < pr ∧ pr < 2 ^ 32 := by
  have l0 : 0 ≤ c % 5 := Int.emod_nonneg _ (by decide)
  have l1 : c % 5 < 5 := Int.emod_lt_of_pos _ (by decide)
  generalize c % 5 = i at l0 l1
  obtain ⟨j, rfl⟩ := Int.eq_ofNat_of_zero_le l0
  have lj : j < 5 := by omega
  match j, lj with
  | 0, _ => exact ⟨2147483647, atI_nat rfl, by decide, by decide⟩
  | 1, _ => exact ⟨2147483629, atI_nat rfl, by decide, by decide⟩
  | 2, _ => exact ⟨2147483587, atI_nat rfl, by decide, by decide⟩
  | 3, _ => exact ⟨2147483579, atI_nat rfl, by decide, by decide⟩
  | 4, _ => exact ⟨2147483563, atI_nat rfl, by decide, by decide⟩
theorem small_pow {a c : Int} {n : Nat} (a0 : 0 ≤ a) (a1 : a < 2147483647) (c0 : 0 ≤ c) (c1 : c ≤ (n : Int)) (hn : n < 1000000000) : (a + 7919 * (c + 1)).natAbs < 2 ^ 64 := by omega
end L2.Fu
namespace L2.Fu
open PySem PySem.Spec PyProof.Rows
/-- a reading may be made stronger -/
theorem pe_imp {X : Cx} {e : Expr} {t : TE} (t' : TE) (p : PE X e t) (h : ∀ σ H Q, t' σ H Q → t σ H Q) : PE X e t' := ⟨fun pins s σ H Q I q => p.run pins s σ H Q I (h σ H Q q)⟩
/-- script[k] if k < len(script) else 0: some int -/
def tCell (K : PySem.W.Frag) : TE := fun σ H Q => ∃ (a : Addr) (ns : List Int) (k : Int), σ[0]? = some (some (.ref a)) ∧ σ[1]? = some (some (.int k)) ∧ SqL K H a (ns.map V.int) ∧ 0 ≤ k ∧ ∀ c : Int, Q (.int c) H
theorem atI_in {α : Type} {xs : List α} {i : Int} (h0 : 0 ≤ i) (h1 : i < (xs.length : Int)) : ∃ v, atI xs i = some v ∧ v ∈ xs := by
  obtain ⟨j, rfl⟩ := Int.eq_ofNat_of_zero_le h0
  have lj : j < xs.length := by omega
  exact ⟨xs[j], atI_nat (List.getElem?_eq_getElem lj), List.getElem_mem lj⟩
end L2.Fu
/-! ## How long what is shown is -/
namespace L2.Fu
open PySem PySem.Spec PyProof.Rows
structure ShowsAll (ds : List PyData) (n k : Nat) : Prop where
  can : PyData.showableAll ds = true
  few : piled (PyData.shownAll ds) ≤ n
  flat : PyData.depthAll ds ≤ k
theorem ShowsAll.nil (k : Nat) : ShowsAll [] 0 k := ⟨by simp only [PyData.showableAll], Nat.le_refl 0, Nat.zero_le k⟩
theorem ShowsAll.cons {d : PyData} {ds : List PyData} {n m k : Nat} (h : Shows d n k) (t : ShowsAll ds m k) : ShowsAll (d :: ds) (n + 2 + m) k :=
  ⟨by simp only [PyData.showableAll, h.can, t.can, Bool.and_self], by
      simp only [PyData.shownAll, piled_cons]
      have := h.few
      have := t.few
      omega, by
      simp only [PyData.depthAll]
      exact Nat.max_le.mpr ⟨h.flat, t.flat⟩⟩
theorem join_len (ts : List Str) : (Str.join ", " ts).length ≤ piled ts := by
  by_cases h : ts = []
  · subst h
    exact Nat.zero_le _
  · have := join_length_add ts h
    omega
theorem textFrom_le : ∀ (ts : List Str) (k : Nat) (acc : Str), (textFrom k acc ts).length ≤ acc.length + piled ts
  | [], k, acc => Nat.le_add_right _ _
  | t :: r, k, acc => by
    have ih := textFrom_le r (k + 1) (acc ++ (if k > 0 then ", " else "" : String) ++ t)
    have e : (acc ++ (if k > 0 then ", " else "" : String) ++ t).length ≤ acc.length + 2 + t.length := by
      rw [strLen_append, strLen_append]
      by_cases hk : k > 0
      · rw [if_pos hk]
        exact Nat.le_refl _
      · rw [if_neg hk]
        show acc.length + 0 + t.length ≤ _
        omega
    rw [piled_cons]
    show (textFrom (k + 1) (acc ++ (if k > 0 then ", " else "" : String) ++ t) r).length ≤ _
    omega
theorem Shows.lst {ds : List PyData} {n k : Nat} (h : ShowsAll ds n k) : Shows (.list ds) (n + 2) (k + 1) :=
  ⟨by simp only [PyData.showable, h.can], by
      simp only [PyData.shown]
      have e : (listText (PyData.shownAll ds)).length = (textFrom 0 "[" (PyData.shownAll ds)).length + 1 := by
        unfold listText
        rw [strLen_append]
        rfl
      have l := textFrom_le (PyData.shownAll ds) 0 "["
      have o : (("[" : String) : Str).length = 1 := rfl
      have := h.few
      rw [o] at l
      omega, by
      simp only [PyData.depth]
      exact Nat.succ_le_succ h.flat⟩
theorem Shows.tup {ds : List PyData} {n k : Nat} (h : ShowsAll ds n k) : Shows (.tuple ds) (n + 3) (k + 1) :=
  ⟨by simp only [PyData.showable, h.can], by
      simp only [PyData.shown]
      have e : (tupleText (PyData.shownAll ds)).length ≤ 1 + (Str.join ", " (PyData.shownAll ds)).length + 2 := by
        unfold tupleText
        rw [strLen_append, strLen_append]
        by_cases hk : ((PyData.shownAll ds).length == 1) = true
        · rw [if_pos hk]
          exact Nat.le_refl _
        · rw [if_neg hk]
          show 1 + _ + 1 ≤ _
          omega
      have l := join_len (PyData.shownAll ds)
      have := h.few
      omega, by
      simp only [PyData.depth]
      exact Nat.succ_le_succ h.flat⟩
theorem Shows.more {d : PyData} {n k n' k' : Nat} (h : Shows d n k) (a : n ≤ n') (b : k ≤ k') : Shows d n' k' := ⟨h.can, Nat.le_trans h.few a, Nat.le_trans h.flat b⟩
theorem ShowsAll.more {d : List PyData} {n k n' k' : Nat} (h : ShowsAll d n k) (a : n ≤ n') (b : k ≤ k') : ShowsAll d n' k' := ⟨h.can, Nat.le_trans h.few a, Nat.le_trans h.flat b⟩
theorem Shows.dic1 {x : Str} {d : PyData} {n k : Nat} (hx : (reprText x).length ≤ 20) (h : Shows d n k) : Shows (.dict [(.str x, d)]) (n + 24) (k + 1) :=
  ⟨by simp only [PyData.showable, PyData.showableKv, h.can, Bool.and_self], by
      simp only [PyData.shown, PyData.shownKv]
      have e : (dictText [reprText x ++ ": " ++ d.shown]).length = 1 + ((reprText x).length + 2 + d.shown.length) + 1 := by
        unfold dictText
        rw [strLen_append, strLen_append]
        show 1 + (reprText x ++ ": " ++ d.shown).length + 1 = _
        rw [strLen_append, strLen_append]
        rfl
      have := h.few
      omega, by
      simp only [PyData.depth, PyData.depthKv]
      have := h.flat
      omega⟩
theorem same_two {H : Hp} {q : Addr} {o u : HO} (f : H q = none) : Same H (upd (upd H q o) q u) := fun b x k => by
  rw [upd_ne (ne_of_none k f), upd_ne (ne_of_none k f)]
  exact k
/-- some data that is shown in at most 40 signs -/
def Dat (H : Hp) (v : V) : Prop := ∃ d, Da H v d ∧ Shows d 60 4
theorem Dat.mono {H H' : Hp} {v : V} (s : Same H H') (h : Dat H v) : Dat H' v := by
  obtain ⟨d, a, b⟩ := h
  exact ⟨d, a.mono s, b⟩
theorem dat_non {H : Hp} : Dat H .non := ⟨_, .non, by decide +kernel, by decide +kernel, by decide +kernel⟩
theorem dat_bl {H : Hp} (b : Bool) : Dat H (.bl b) := ⟨_, .bl b, by cases b <;> decide +kernel, by cases b <;> decide +kernel, by cases b <;> decide +kernel⟩
theorem dat_int {H : Hp} (i : Int) (h1 : i.natAbs.log2 < 1920) (h2 : (PyData.int i).shown.length ≤ 60) : Dat H (.int i) := ⟨_, .int i, by simp only [PyData.showable, h1, decide_true], h2, by simp only [PyData.depth]; omega⟩
theorem shows_str {x : Str} {n k : Nat} (h : (reprText x).length ≤ n) : Shows (.str x) n k := ⟨by simp only [PyData.showable], by simp only [PyData.shown]; exact h, by simp only [PyData.depth]; exact Nat.zero_le _⟩
theorem dat_str {H : Hp} (x : Str) (h : (reprText x).length ≤ 60) : Dat H (.str x) := ⟨_, .str x, shows_str h⟩
end L2.Fu
/-! ## enumerate over a list -/
namespace L2.Fu
open PySem PySem.Spec PyProof.Rows
theorem for_enum {K : PySem.W.Frag} {a : Addr} {xs : List V} {g : TG} {tb : TS} {D : Ends} {σ : St} {H : Hp} (Pv : Nat → St → Hp → Prop) (h0 : Pv 0 σ H) (hl : ∀ i σ H, Pv i σ H → SqL K H a xs)
    (hs : ∀ i x T σ H, xs[i]? = some x → H T = none → Pv i σ H → g (.ref T) σ (upd H T (.tup [.int ((i : Nat) : Int), x])) fun σ2 H2 => tb { D with nx := Pv (i + 1), ct := Pv (i + 1), bk := D.nx } σ2 H2) (hd : ∀ σ H, Pv xs.length σ H → D.nx σ H) :
    ∃ W : Nat → Nat → St → Hp → Prop, (∃ m, W 0 m σ H) ∧ ∀ i m σ H, W i m σ H →
      ((Ite K a).stop i H ∧ D.nx σ H) ∨ ((Ite K a).go i H ∧ ∃ N : St → Hp → Prop, (∀ σ' H', N σ' H' → ∃ m', m' < m ∧ W (i + 1) m' σ' H') ∧ ∀ x H', (Ite K a).yld i H x H' → g x σ H' fun σ2 H2 => tb { D with nx := N, ct := N, bk := D.nx } σ2 H2) := by
  refine ⟨fun i m σ H => m + i = xs.length ∧ Pv i σ H, ⟨xs.length, rfl, h0⟩, ?_⟩
  rintro i m σ H ⟨hm, pv⟩
  have q := hl i σ H pv
  by_cases lt : i < xs.length
  · have at_i : xs[i]? = some xs[i] := List.getElem?_eq_getElem lt
    refine .inr ⟨⟨xs, xs[i], q, at_i⟩, Pv (i + 1), fun σ' H' p' => ⟨m - 1, by omega, by omega, p'⟩, ?_⟩
    rintro x H' ⟨T, y, rfl, nT, rfl, hy⟩
    exact hs i y T σ H (hy xs q) nT pv
  · obtain rfl : i = xs.length := by omega
    exact .inl ⟨⟨xs, q, Nat.le_refl _⟩, hd σ H pv⟩
theorem lc_enum {K : PySem.W.Frag} {a : Addr} {xs : List V} {g : TG} {tt : TT} {te : TE} {vs : List Nat} {σ : St} {H1 : Hp} {D : Addr} {Qd : Hp → Prop} (Pv : Nat → Hp → Prop) (h0 : Pv 0 (upd H1 D (.lst []))) (hl : ∀ i H, Pv i H → SqL K H a xs)
    (hs : ∀ i x T H, xs[i]? = some x → H T = none → Pv i H → g (.ref T) (wipe σ vs) (upd H T (.tup [.int ((i : Nat) : Int), x])) fun σ2 H2 => wipe σ2 vs = wipe σ vs ∧ tt σ2 H2 fun b H3 =>
      if b = true then te σ2 H3 fun y H4 => ∃ acc, H4 D = some (.lst acc) ∧ acc.length < sizeLine ∧ Pv (i + 1) (upd H4 D (.lst (acc ++ [y]))) else Pv (i + 1) H3) (hd : ∀ H, Pv xs.length H → Qd H) :
    ∃ W : Nat → Nat → Hp → Prop, (∃ m, W 0 m (upd H1 D (.lst []))) ∧ ∀ i m H, W i m H →
      ((Ite K a).stop i H ∧ Qd H) ∨ ((Ite K a).go i H ∧ ∃ Nx : Hp → Prop, (∀ H', Nx H' → ∃ m', m' < m ∧ W (i + 1) m' H') ∧ ∀ x H', (Ite K a).yld i H x H' → g x (wipe σ vs) H' fun σ2 H2 => wipe σ2 vs = wipe σ vs ∧ tt σ2 H2 fun b H3 =>
        if b = true then te σ2 H3 fun y H4 => ∃ acc, H4 D = some (.lst acc) ∧ acc.length < sizeLine ∧ Nx (upd H4 D (.lst (acc ++ [y]))) else Nx H3) := by
  refine ⟨fun i m H => m + i = xs.length ∧ Pv i H, ⟨xs.length, rfl, h0⟩, ?_⟩
  rintro i m H ⟨hm, pv⟩
  have q := hl i H pv
  by_cases lt : i < xs.length
  · have at_i : xs[i]? = some xs[i] := List.getElem?_eq_getElem lt
    refine .inr ⟨⟨xs, xs[i], q, at_i⟩, Pv (i + 1), fun H' p' => ⟨m - 1, by omega, by omega, p'⟩, ?_⟩
    rintro x H' ⟨T, y, rfl, nT, rfl, hy⟩
    exact hs i y T H (hy xs q) nT pv
  · obtain rfl : i = xs.length := by omega
    exact .inl ⟨⟨xs, q, Nat.le_refl _⟩, hd H pv⟩
end L2.Fu
/-! ## Sets of texts, and how they are sorted -/
namespace L2.Fu
open PySem PySem.Spec PyProof.Rows
open PySem.Froz (SD sObj TxOk addTx tailTx add_x add_ok is_str get_upd)
/-- at a the set of the texts l stands, and its table can be walked -/
def TxR (P : Program) (w : World) (h : Heap) (a : Addr) (l : List Str) : Prop :=
  ∃ D : SD, h.get? a = some (sObj "set" D) ∧ TxOk P w D l ∧ l.Nodup ∧ l.length < scanBound ∧ Ris D.2.2.place.toList ∧ (w.params.followText "set-order" = true ∨ D.2.2.led = true)
def SetT (P : Program) (w : World) (a : Addr) (l : List Str) : HO := .ext fun h => TxR P w h a l
theorem ris_tail (ep : Nat) (es : Array (Int × Value)) {t : SetTable} (wd : Bool) (r : Ris t.place.toList) : Ris (tailTx ep es t wd).2.2.place.toList := by
  unfold tailTx
  split
  · exact relayAll_ris t es _
  · exact r
theorem led_tail (ep : Nat) (es : Array (Int × Value)) (t : SetTable) (wd : Bool) : (tailTx ep es t wd).2.2.led = t.led := by
  unfold tailTx
  split
  · exact relayAll_led t es _
  · rfl
theorem ris_add (h : Int) (v : Value) {D : SD} (r : Ris D.2.2.place.toList) : Ris (addTx h v D).2.2.place.toList := by
  unfold addTx
  refine ris_tail _ _ _ ?_
  have q := layNew_ris D.2.2 D.1 h v r
  split
  · exact q
  · exact q
theorem led_add (h : Int) (v : Value) (D : SD) : (addTx h v D).2.2.led = D.2.2.led := by
  unfold addTx
  rw [led_tail]
  have q := layNew_led D.2.2 D.1 h v
  split
  · exact q
  · exact q
section
variable {P : Program} {w : World} {h h' : Heap} {a : Addr} {l : List Str}
theorem TxR.at (R : TxR P w h a l) (k : ∀ o, h.get? a = some o → h'.get? a = some o) : TxR P w h' a l := by
  obtain ⟨D, e, r⟩ := R
  exact ⟨D, k _ e, r⟩
theorem setT_new {H : Hp} (R : TxR P w h a l) : ObjOk P w H h a (SetT P w a l) := by
  obtain ⟨D, e, r⟩ := id R
  exact ⟨R, ⟨_, e⟩, fun h1 h2 p k => p.at k⟩
theorem TxR.setOf (R : TxR P w h a l) : h.SetOf (strKind P w) a (fun k => decide (k ∈ l)) l.length := by
  obtain ⟨⟨es, ep, t⟩, e, F, nd, hb, _⟩ := R
  have sz : es.size = l.length := F.sz
  exact ⟨_, es, ep, t, e, ⟨rfl, rfl, rfl⟩, rfl, F.el, fun k => by rw [decide_eq_true_eq]; exact F.mem k, by rw [sz]; exact hb, F.fit, sz⟩
end
section
variable {P : Program} {w : World} {A : Around} {E : Value → Shared → Prop} {s : Shared} {a : Addr} {l : List Str}
/-- add of a text that is there -/
theorem had_x {T : String} {D : SD} {k : Str} {u : Tok} {Q : Bool → Shared → Prop} (ho : s.heap.get? a = some (sObj T D)) (F : TxOk P w D l) (hk : k ∈ l) (hb : l.length < scanBound) (h : Q false s) :
    wpAny (model P w) A (setAddHashed a (.str k u) (hashStr w k)) Q E s := by
  obtain ⟨es, ep, t⟩ := D
  have sz : es.size = l.length := F.sz
  have el : ElemsOf (strKind P w) es.toList := F.el
  unfold setAddHashed setAddHashedIn
  refine wpAny_holding (wpAny_bind (wpAny_setState_of ho rfl F.fit ?_))
  dsimp only
  rw [byScan_of (knd := strKind P w) rfl (by rw [sz]; exact hb) el]
  simp only [↓reduceIte]
  unfold setAddByScan
  refine wpAny_bind (wpAny_bind (wpAny_rule (wpAny_bind (wpAny_setScan_of (knd := strKind P w) (k := k) (is_str k u) ho rfl F.fit el ?_))))
  obtain ⟨e, he, q⟩ := (F.mem k).mp hk
  cases hfi : List.findIdx? (fun e => (strKind P w).is k e.2) es.toList with
  | some j =>
    dsimp only
    exact wpAny_pure (wpAny_pure h)
  | none =>
    have c := List.findIdx?_eq_none_iff.mp hfi e he
    rw [q] at c
    cases c
/-- set.add of a text -/
theorem setT_add {k : Str} {u : Tok} {Q : Value → Shared → Prop} (R : TxR P w s.heap a l) (room : l.length + 1 < scanBound)
    (hQ : ∀ h', Heap.SameBut a s.heap h' → TxR P w h' a (if k ∈ l then l else k :: l) → Q .none { s with heap := h', toks := s.toks + 1 }) :
    wpAny (model P w) A (call (.builtin "set.add") [.ref a, .str k u]) Q E s := by
  refine wpAny_call_entry F.slot_set_add R.setOf.typeIs F.entry_set_add ?_ (F.args_set_add_2 _ _)
  unfold Builtin.«set.add» Builtin.Frozenset.oneOther
  simp only [List.isEmpty_nil, bind_assoc]
  unfold Builtin.Frozenset.addrOf setAdd
  refine wpAny_bind (wpAny_pure ?_)
  try dsimp only
  refine wpAny_bind (wpAny_pure ?_)
  try dsimp only
  refine wpAny_bind (wpAny_holding (wpAny_bind ((strKind P w).pyHash (is_str k u) ?_)))
  obtain ⟨D, e, F, nd, hb, r, ld⟩ := R
  have fin : ∀ (h' : Heap), Heap.SameBut a s.heap h' → TxR P w h' a (if k ∈ l then l else k :: l) → wpAny (model P w) A.in1 (ret Value.none) (fun v s' => ∃ z, v = .done (.ret z) ∧ Q z s') E { s with heap := h', toks := s.toks + 1 } := fun h' sb t => wpAny_pure ⟨_, rfl, hQ h' sb t⟩
  by_cases hk : k ∈ l
  · refine had_x (s := { s with toks := s.toks + 1 }) e F hk hb ?_
    exact fin s.heap (Heap.SameBut.refl a s.heap) (by rw [if_pos hk]; exact ⟨D, e, F, nd, hb, r, ld⟩)
  · refine add_x (s := { s with toks := s.toks + 1 }) e F hk room ?_
    refine fin _ (Heap.SameBut.update s.heap a _) ?_
    rw [if_neg hk]
    exact ⟨_, get_upd _ e rfl, add_ok u F, List.nodup_cons.mpr ⟨hk, nd⟩, room, ris_add _ _ r, ld.imp id fun z => by rw [led_add]; exact z⟩
end
/-- a list that has all of l, and no more places than l, is an arrangement of l -/
theorem perm_of_all {α : Type} [DecidableEq α] : ∀ {l ks : List α}, l.Nodup → ks.length = l.length → (∀ x ∈ l, x ∈ ks) → ks.Perm l
  | [], ks, _, hl, _ => by
    have e : ks = [] := List.length_eq_zero_iff.mp hl
    rw [e]
  | x :: l, ks, nd, hl, ha => by
    have hx : x ∈ ks := ha x List.mem_cons_self
    have p := List.perm_cons_erase hx
    have h1 : (ks.erase x).length = l.length := by
      have := p.length_eq
      rw [List.length_cons] at this hl
      omega
    have h2 : ∀ y ∈ l, y ∈ ks.erase x := fun y hy => by
      have ne : y ≠ x := fun z => (List.nodup_cons.mp nd).1 (z ▸ hy)
      exact (List.mem_erase_of_ne ne).mpr (ha y (List.mem_cons_of_mem _ hy))
    exact p.trans (List.Perm.cons x (perm_of_all (List.nodup_cons.mp nd).2 h1 h2))
def textOf : Value → Str
  | .str x _ => x
  | _ => ⟨#[]⟩
theorem strs_of : ∀ (vs : List Value), (∀ v ∈ vs, ∃ x t, v = Value.str x t) → StrsAre vs (vs.map textOf)
  | [], _ => .nil
  | v :: vs, h => by
    obtain ⟨x, t, rfl⟩ := h v List.mem_cons_self
    exact .cons x t (strs_of vs fun u hu => h u (List.mem_cons_of_mem _ hu))
section
variable {X : Cx}
theorem setT_get {pins : List (Addr × Obj)} {σ : St} {H : Hp} {s : Shared} {a : Addr} {l : List Str} (I : Inv X pins σ H s) (ha : H a = some (SetT X.prog X.w a l)) : TxR X.prog X.w s.heap a l := (I.hok a _ ha).1
/-- set() -/
def rSet0T (P : Program) (w : World) : List V → Hp → VK → Prop := fun xs H Q => xs = [] ∧ ∀ p, H p = none → Q (.ref p) (upd H p (SetT P w p []))
theorem fresh_T {P : Program} {w : World} {h : Heap} : TxR P w (h.push { cls := .type "set", dict := none, data := .set #[] 0 (.fresh 0 0 (!w.params.followText "set-order")) }) h.objs.size [] := by
  refine ⟨(#[], 0, .fresh 0 0 (!w.params.followText "set-order")), Heap.get?_push_size _ rfl, .nil rfl, List.nodup_nil, by decide, List.Pairwise.nil, ?_⟩
  show _ ∨ (!w.params.followText "set-order") = true
  cases w.params.followText "set-order"
  · exact .inr rfl
  · exact .inl rfl
theorem cr_set0T : CallR X (.type "set") (rSet0T X.prog X.w) := by
  intro pins s σ H xs us Q I r h
  obtain ⟨rfl, q⟩ := h
  cases r
  exact setR_new fun _ => ⟨.ref _, upd H s.heap.objs.size (SetT X.prog X.w s.heap.objs.size []), I.laid (t' := s.toks) (fun b u e => Heap.get?_push_of_some _ e) (Nat.le_refl _) (setT_new fresh_T), rfl, q _ (I.hok.fresh (Nat.le_refl _))⟩
/-- a text is added, whatever runs -/
theorem addT_ok {pins : List (Addr × Obj)} {σ : St} {H : Hp} {s : Shared} {a : Addr} {l : List Str} {k : Str} {u : Tok} {A : Around} {E : Value → Shared → Prop} {Q : Value → Shared → Prop} (I : Inv X pins σ H s) (ha : H a = some (SetT X.prog X.w a l)) (room : l.length + 1 < scanBound)
    (h : ∀ s', Inv X pins σ (upd H a (SetT X.prog X.w a (if k ∈ l then l else k :: l))) s' → Q .none s') : wpAny (model X.prog X.w) A (call (.builtin "set.add") [.ref a, .str k u]) Q E s := by
  refine setT_add (setT_get I ha) room fun h' sb t => h _ ?_
  have he : ∃ o, h'.get? a = some o := by
    obtain ⟨D, e, _⟩ := id t
    exact ⟨_, e⟩
  exact I.write (x := a) (e := a) (t' := s.toks + 1) (by rw [ha]; trivial) (.inl rfl) (fun b o hb ho => (sb.2 b hb).trans ho) he (setT_new t)
/-- x in found, x not in found -/
def rSInT (P : Program) (w : World) (neg : Bool) : V → V → Hp → VK → Prop := fun x y H Q => ∃ (k : Str) (a : Addr) (l : List Str), x = .str k ∧ y = V.ref a ∧ H a = some (SetT P w a l) ∧ Q (.bl (if neg then !decide (k ∈ l) else decide (k ∈ l))) H
theorem or_sinT : OpR X (compareOp .In) (rSInT X.prog X.w false) := by
  intro pins s σ H x y v u Q I rx ry h
  obtain ⟨k, a, l, rfl, rfl, ha, q⟩ := h
  obtain ⟨t, rfl⟩ := rx
  cases ry
  exact wpAny_inSet_of (is_str k t) rfl (setT_get I ha).setOf ⟨.bl (decide (k ∈ l)), H, I.tok _, rfl, q⟩
theorem or_snotinT : OpR X (compareOp .NotIn) (rSInT X.prog X.w true) := by
  intro pins s σ H x y v u Q I rx ry h
  obtain ⟨k, a, l, rfl, rfl, ha, q⟩ := h
  obtain ⟨t, rfl⟩ := rx
  cases ry
  exact wpAny_notInSet_of (is_str k t) rfl (setT_get I ha).setOf ⟨.bl (!decide (k ∈ l)), H, I.tok _, rfl, q⟩
/-- sorted(found) -/
def rSortT (P : Program) (w : World) : List V → Hp → VK → Prop := fun vs H Q => ∃ (a : Addr) (l : List Str), vs = [V.ref a] ∧ H a = some (SetT P w a l) ∧ l.length < 64 ∧
  ∀ (ys : List Str) (p : Addr), ys.Perm l → sortedS ys = true → H p = none → Q (.ref p) (upd H p (.lst (ys.map V.str)))
theorem cr_sortT (hc : X.calm = true) : CallR X (.builtin "sorted") (rSortT X.prog X.w) := by
  intro pins s σ H xs us Q I r h
  obtain ⟨a, l, rfl, ha, h64, q⟩ := h
  obtain ⟨u, rfl, ru⟩ := vals1 r
  cases ru
  obtain ⟨⟨es, ep, t⟩, e, F, nd, hb, rs, ld⟩ := setT_get I ha
  have sz : es.size = l.length := F.sz
  have el : ElemsOf (strKind X.prog X.w) es.toList := F.el
  refine Calls.call_function_entry kind_sorted plain_sorted entry_sorted (args_sorted1 _) ?_
  unfold Builtin.«sorted»
  refine wpAny_bind (m := checkCount "sorted" 1 1 _) (wpAny_pure ?_)
  refine wpAny_bind (collect_set (A := X.A.in1) (I.ok.hd hc) ⟨_, e, rfl, rfl⟩ F.fit (by rw [sz]; exact hb) rs ld fun s1 vs k1 hz g1 o1 pm => ?_)
  have isT : ∀ v ∈ vs, ∃ x t, v = Value.str x t := fun v hv => by
    obtain ⟨en, he, ev⟩ := List.mem_map.mp (pm.mem_iff.mp hv)
    obtain ⟨⟨k, hk, _⟩, _⟩ := el en he
    obtain ⟨t, et⟩ := Value.isStrOf_shape (x := k) (v := en.2) hk
    exact ⟨k, t, by rw [← ev]; exact et⟩
  have hS : StrsAre vs (vs.map textOf) := strs_of vs isT
  have len : (vs.map textOf).length = l.length := by rw [List.length_map, pm.length_eq, List.length_map, Array.length_toList]; exact sz
  have pl : (vs.map textOf).Perm l := perm_of_all nd len fun k hk => by
    obtain ⟨en, he, hi⟩ := (F.mem k).mp hk
    obtain ⟨t, et⟩ := Value.isStrOf_shape (x := k) (v := en.2) hi
    refine List.mem_map.mpr ⟨en.2, pm.mem_iff.mpr (List.mem_map.mpr ⟨en, he, rfl⟩), ?_⟩
    rw [et]
    rfl
  have vl : vs.length = l.length := by rw [List.length_map] at len; exact len
  obtain ⟨h1, g', d', t', o'⟩ := s1
  have J : Inv X pins σ H ⟨h1, g', d', t', o'⟩ := I.call' (ch := []) o1 (Un.kept k1) (I.hok.kept k1) (by rw [g1]; exact I.bare) (fun _ z => nomatch z)
  refine wpAny_bind (wpAny_newList ?_ (by rw [vl, sizeLine_eq]; omega))
  have hoL : (h1.push (seqObj "list" vs.toArray 0)).get? h1.objs.size = some (seqObj "list" vs.toArray 0) := Heap.get?_push_size _ rfl
  show wpAny _ _ _ _ _ (⟨h1.push (seqObj "list" vs.toArray 0), g', d', t', o'⟩ : Shared)
  refine wpAny_bind (wpAny_holding (wpAny_call_entry slot_list_sort ⟨_, hoL, rfl⟩ entry_list_sort
    (list_sort_treeK strKind_oneLt (s := ⟨h1.push (seqObj "list" vs.toArray 0), g', d', t', o'⟩) hoL hS.keysOf (fun v1 v2 rest e => keyKind_strs (by rw [← e]; exact hS)) (by rw [vl]; exact h64) fun st' hp hs => ⟨_, rfl, ?_⟩) (args_list_sort _)))
  obtain ⟨ys, y1, y2, y3⟩ := sorted_out_str hS hp hs
  obtain ⟨c, hcL⟩ := sortedHeap_at (vs := vs) (out := (arrOf st').map (·.2)) hoL
  have ly : (ys.map V.str).length ≤ sizeLine := by
    rw [List.length_map, y2.length_eq, len]
    exact Nat.le_trans (Nat.le_of_lt h64) (by decide)
  refine wpAny_pure ⟨_, rfl, .ref h1.objs.size, upd H h1.objs.size (.lst (ys.map V.str)), J.laid (t' := t') (fun b o eb => ?_) (Nat.le_refl _)
    (show ObjOk X.prog X.w _ _ _ (.lst (ys.map V.str)) from ⟨ly, ((arrOf st').map (·.2)).toList, c, vals_of_strs y1, by rw [Array.toArray_toList]; exact hcL⟩), rfl, q ys _ (y2.trans pl) y3 (J.hok.fresh (Nat.le_refl _))⟩
  have lb : b < h1.objs.size := Heap.lt_size eb
  rw [sortedHeap_old (Nat.ne_of_lt lb) (by rw [size_push']; exact Nat.lt_succ_of_lt lb)]
  exact Heap.get?_push_of_some _ eb
end
end L2.Fu
/-! ## {elt for target in iter if ..}, elt a text -/
namespace L2.Fu
open PySem PySem.Spec PyProof.Rows
section
variable {X : Cx}
def tScT (P : Program) (w : World) (wi : TI) (g : TG) (tt : TT) (te : TE) (vs : List Nat) : TE := fun σ H Q => wi σ H fun J H1 => ∀ D, H1 D = none → ∃ W : Nat → Nat → Hp → Prop, (∃ m, W 0 m (upd H1 D (SetT P w D []))) ∧ ∀ i m H, W i m H →
  (J.stop i H ∧ Q (.ref D) H) ∨ (J.go i H ∧ ∃ Nx : Hp → Prop, (∀ H', Nx H' → ∃ m', m' < m ∧ W (i + 1) m' H') ∧ ∀ x H', J.yld i H x H' → g x (wipe σ vs) H' fun σ2 H2 => wipe σ2 vs = wipe σ vs ∧ tt σ2 H2 fun b H3 =>
    if b = true then te σ2 H3 fun y H4 => ∃ (k : Str) (l : List Str), y = .str k ∧ H4 D = some (SetT P w D l) ∧ l.length + 1 < scanBound ∧ Nx (upd H4 D (SetT P w D (if k ∈ l then l else k :: l))) else Nx H3)
theorem pe_scT {elt tg iter : Expr} {ifs : List Expr} {scope : Scope} {own : List (Str × Nat)} {pos : Pos} {wi : TI} {g : TG} {tt : TT} {te : TE} (hc : X.calm = true) (hN : X.N.Nodup) (hi : PI X tg iter wi) (ok : BlkOk X.N X.env.scope scope own)
    (hg : ∀ (s : Shared) (H : Hp) (C : Addr) (cl : List (Str × Addr)) (fp : List Addr), PG (X.blk s H scope (compEnvC scope cl C X.env) fp) tg g) (ht : ∀ (s : Shared) (H : Hp) (C : Addr) (cl : List (Str × Addr)) (fp : List Addr), PTs (X.blk s H scope (compEnvC scope cl C X.env) fp) ifs tt)
    (he : ∀ (s : Shared) (H : Hp) (C : Addr) (cl : List (Str × Addr)) (fp : List Addr), PE (X.blk s H scope (compEnvC scope cl C X.env) fp) elt te) (hs : ∀ x, foldedSetIterable iter X.env x = pure x := by intro _; rfl) :
    PE X (.SetComp elt [⟨tg, iter, ifs, 0⟩] scope pos) (tScT X.prog X.w wi g tt te (own.map (·.2))) := by
  refine ⟨fun pins s σ H Q I h => ?_⟩
  rw [PpSet.eval_SetComp]
  have cells : ∀ y ∈ scope.names, y.2 = .free → ∃ c, X.env.cells.lookup y.1 = some c := by
    intro y hy e
    exact (ok.free y hy e).elim (fun k => I.ok.has _ (.inl k)) fun k => I.ok.has _ (.inr k)
  refine wpAny_comprehension_free rfl hs (closure_ok cells) ok.kind (fun y hy e => by rw [ok.uniq y hy, e]) (thn (hi.run pins s σ H _ I h) fun xv s1 hx => thn hx fun itv s2 h2 => ?_)
  obtain ⟨it, fp, tn, J, G, rfl, I2, T, st2, f2, q⟩ := h2
  refine PpSet.newSet_ok (newEnv_comp ?_)
  -- the empty set is laid at D, then the block's own frame behind it
  have keep2 : ∀ b o, s2.heap.get? b = some o → (s2.heap.push { cls := .type "set", dict := none, data := .set #[] 0 (.fresh 0 0 (!X.w.params.followText "set-order")) }).get? b = some o := fun b o e => Heap.get?_push_of_some _ e
  have freeD : G s2.heap.objs.size = none := I2.hok.fresh (Nat.le_refl _)
  have I3 := I2.laid (t' := s2.toks) keep2 (Nat.le_refl _) (setT_new (H := upd G s2.heap.objs.size (SetT X.prog X.w s2.heap.objs.size [])) (fresh_T (P := X.prog) (w := X.w) (h := s2.heap)))
  obtain ⟨W, ⟨m0, w0⟩, turn⟩ := q s2.heap.objs.size freeD
  have low : ∀ b ∈ fp, b < s2.heap.objs.size := fun b hb => by
    obtain ⟨o, e, _⟩ := T.obj _ _ st2 b hb
    exact Heap.lt_size e
  have f3 : ∀ b ∈ fp, FpOk X pins (upd G s2.heap.objs.size (SetT X.prog X.w s2.heap.objs.size [])) b := fun b hb => by
    obtain ⟨z, zz⟩ := f2 b hb
    exact ⟨by rw [upd_ne (Nat.ne_of_lt (low b hb))]; exact z, zz⟩
  have st3 := T.keep _ _ _ st2 fun b _ o e => keep2 b o e
  generalize s2.heap.objs.size = D at I3 w0 turn f3 ⊢
  have low3 : ∀ b ∈ fp, b < (s2.heap.push { cls := .type "set", dict := none, data := .set #[] 0 (.fresh 0 0 (!X.w.params.followText "set-order")) }).objs.size := fun b hb => by
    rw [Heap.size_push]
    exact Nat.lt_succ_of_lt (low b hb)
  generalize hs3 : ({ s2 with heap := s2.heap.push { cls := .type "set", dict := none, data := .set #[] 0 (.fresh 0 0 (!X.w.params.followText "set-order")) } } : Shared) = s3 at I3
  have e3 : s3.heap = s2.heap.push { cls := .type "set", dict := none, data := .set #[] 0 (.fresh 0 0 (!X.w.params.followText "set-order")) } := by rw [← hs3]
  rw [← e3] at low3 st3
  generalize upd G D (SetT X.prog X.w D []) = G3 at I3 w0 f3
  have I4 := block_start I3 ok hN fun b hb => ⟨f3 b hb, low3 b hb⟩
  show codeAny _ _ (.compStart _ 0 (.ref it) (.ref D) (compEnvC scope (cellsFrom (s3.heap.objs.size + 1) scope.names (cloFrom X.env.cells scope.names [])) s3.heap.objs.size X.env)) (compPost (model X.prog X.w) X.A X.xe none _ (.ref D) s3.heap.objs.size) { s3 with heap := pushCells (s3.heap.push { cls := .type "dict", data := .dict #[] }) scope.names }
  have pg := hg s3 G3 s3.heap.objs.size (cellsFrom (s3.heap.objs.size + 1) scope.names (cloFrom X.env.cells scope.names [])) fp
  have pt := ht s3 G3 s3.heap.objs.size (cellsFrom (s3.heap.objs.size + 1) scope.names (cloFrom X.env.cells scope.names [])) fp
  have pe := he s3 G3 s3.heap.objs.size (cellsFrom (s3.heap.objs.size + 1) scope.names (cloFrom X.env.cells scope.names [])) fp
  have hL : (compEnvC scope (cellsFrom (s3.heap.objs.size + 1) scope.names (cloFrom X.env.cells scope.names [])) s3.heap.objs.size X.env).locals = s3.heap.objs.size := rfl
  generalize compEnvC scope (cellsFrom (s3.heap.objs.size + 1) scope.names (cloFrom X.env.cells scope.names [])) s3.heap.objs.size X.env = ce at I4 pg pt pe hL ⊢
  have st4 : tn 0 ({ s3 with heap := pushCells (s3.heap.push { cls := .type "dict", data := .dict #[] }) scope.names } : Shared).heap := T.keep _ _ _ st3 fun b _ o e => pushCells_keeps _ _ _ _ (Heap.get?_push_of_some _ e)
  generalize ({ s3 with heap := pushCells (s3.heap.push { cls := .type "dict", data := .dict #[] }) scope.names } : Shared) = s4 at I4 st4 ⊢
  have own_fp : ∀ {σ' : St} {H' : Hp} {s' : Shared}, Inv (X.blk s3 G3 scope ce fp) [] σ' H' s' → (∀ b ∈ fp, H' b = none) → ∀ b ∈ fp, FpOk (X.blk s3 G3 scope ce fp) [] H' b := by
    intro σ' H' s' I' hn b hb
    exact ⟨hn b hb, (I'.ok.exf b hb).1, I'.ok.exfs b hb, .inl hb, fun x c e => (I'.ok.exf b hb).2 x c e, fun p hp => nomatch hp⟩
  have loop : codeAny (model X.prog X.w) X.A (.compLoop (.SetComp elt [⟨tg, iter, ifs, 0⟩] scope pos) 0 (.ref it) (.ref D) ce) (compPost (model X.prog X.w) X.A X.xe none (EP X pins σ Q) (.ref D) s3.heap.objs.size) s4 := by
    refine PpSet.compLoopS_any (fun n t => ∃ (i : Nat) (Hi : Hp), Inv (X.blk s3 G3 scope ce fp) [] (wipe σ (own.map (·.2))) Hi t ∧ tn i t.heap ∧ (∀ b ∈ fp, Hi b = none) ∧ W i n Hi) ?_ m0 ⟨0, G3, I4, st4, fun b hb => (f3 b hb).1, w0⟩
    rintro n t ⟨i, Hi, It, stt, nt, wt⟩
    rcases turn i n Hi wt with ⟨stop, done⟩ | ⟨go, Nx, hNx, step⟩
    · refine thnF (T.done (X.blk s3 G3 scope ce fp) rfl rfl rfl hc i [] t _ Hi (fun _ _ => False) It (own_fp It nt) stt stop) fun r t6 hr => ?_
      obtain ⟨rfl, I6⟩ := hr
      have back : Inv X pins σ Hi t6 := I3.call' (ch := fp) I6.os I6.base I6.hok I6.bare fun b hb => by
        obtain ⟨_, z1, _, z3, z4, z5⟩ := f3 b hb
        exact ⟨z3, z1, z4, z5⟩
      obtain ⟨m, ns, _⟩ := I6.loc
      have ns : t6.heap.Ns ce.locals m := ns
      have free : Hi ce.locals = none := I6.free
      rw [hL] at ns free
      obtain ⟨u0, u1, u2, u3, u4, u5⟩ := I3.fpOk (Nat.le_refl _) free
      exact ⟨m, ns, fun h'' sb => ⟨.ref D, Hi, back.turned (t' := t6.toks) (fun b o hb e => (sb.2 b hb).trans e) u0 u1 u3 u4 u5, rfl, done⟩⟩
    · refine thnF (T.item (X.blk s3 G3 scope ce fp) rfl rfl rfl hc i [] t _ Hi (fun _ _ => False) It (own_fp It nt) stt go) fun r t6 hr => ?_
      obtain ⟨u, rfl, h6⟩ := hr
      refine thnF h6 fun _ t7 hr => ?_
      obtain ⟨x, H7, I7, r7, y7, st7, n7⟩ := hr
      have held := I7.pinned (own_fp I7 n7) (T.obj _ _ st7)
      -- a turn's end: what the iterator leans on stands
      have fin : ∀ (t' : Shared) (σ' : St) (H' : Hp), Inv (X.blk s3 G3 scope ce fp) ([] ++ pinsAt fp t7.heap) σ' H' t' → wipe σ' (own.map (·.2)) = wipe σ (own.map (·.2)) → Nx H' →
          ∃ m, m < n ∧ ∃ (i : Nat) (Hi : Hp), Inv (X.blk s3 G3 scope ce fp) [] (wipe σ (own.map (·.2))) Hi t' ∧ tn i t'.heap ∧ (∀ b ∈ fp, Hi b = none) ∧ W i m Hi := by
        intro t' σ' H' I' hw nx
        obtain ⟨m, lt, w'⟩ := hNx H' nx
        have pin : ∀ b ∈ fp, ∀ o, t7.heap.get? b = some o → t'.heap.get? b = some o ∧ H' b = none := by
          intro b hb o e
          have z := I'.pin (b, o) (List.mem_append_right _ (List.mem_append_right _ (mem_pinsAt hb e)))
          exact ⟨z.1, z.2.1⟩
        have ll : (wipe σ (own.map (·.2))).length = σ'.length := by rw [← hw, wipe_length]
        refine ⟨m, lt, i + 1, H', (I'.unpinned (pins := [])).weak ll (fun j v e => ?_), T.keep _ _ _ st7 fun b hb o e => (pin b hb o e).1, fun b hb => ?_, w'⟩
        · rw [← hw] at e
          exact (wipe_some e).1
        · obtain ⟨o, e, _⟩ := T.obj _ _ st7 b hb
          exact (pin b hb o e).2
      refine thnF (pg.run _ t7 _ H7 x u _ held r7 (step x H7 y7)) fun _ t8 hr => ?_
      obtain ⟨σ8, H8, I8, hw8, q8⟩ := hr
      refine thnF (pt.run _ t8 σ8 H8 _ I8 q8) fun b t9 hr => ?_
      obtain ⟨H9, I9, q9⟩ := hr
      match b, q9 with
      | false, q9 => exact fin t9 σ8 H9 I9 hw8 q9
      | true, q9 =>
        refine thnF (pe.run _ t9 σ8 H9 _ I9 q9) fun z t10 hr => ?_
        obtain ⟨yv, H10, I10, r10, k, l, rfl, hD, room, nx⟩ := hr
        obtain ⟨tk, rfl⟩ := r10
        exact addT_ok (X := X.blk s3 G3 scope ce fp) I10 hD room fun t11 I11 => fin t11 σ8 _ I11 hw8 nx
  exact PpSet.codeAny_compStart_set loop (T.self X.A 0 _ _ _ st4 loop)
end
/-- over a list that the block leaves as it is -/
theorem scT_list {P : Program} {w : World} {K : PySem.W.Frag} {a : Addr} {xs : List V} {g : TG} {tt : TT} {te : TE} {vs : List Nat} {σ : St} {H1 : Hp} {D : Addr} {Qd : Hp → Prop} (Pv : Nat → Hp → Prop) (h0 : Pv 0 (upd H1 D (SetT P w D []))) (hl : ∀ i H, Pv i H → SqL K H a xs)
    (hs : ∀ i x H, xs[i]? = some x → Pv i H → g x (wipe σ vs) H fun σ2 H2 => wipe σ2 vs = wipe σ vs ∧ tt σ2 H2 fun b H3 =>
      if b = true then te σ2 H3 fun y H4 => ∃ (k : Str) (l : List Str), y = .str k ∧ H4 D = some (SetT P w D l) ∧ l.length + 1 < scanBound ∧ Pv (i + 1) (upd H4 D (SetT P w D (if k ∈ l then l else k :: l))) else Pv (i + 1) H3) (hd : ∀ H, Pv xs.length H → Qd H) :
    ∃ W : Nat → Nat → Hp → Prop, (∃ m, W 0 m (upd H1 D (SetT P w D []))) ∧ ∀ i m H, W i m H →
      ((Itl K a).stop i H ∧ Qd H) ∨ ((Itl K a).go i H ∧ ∃ Nx : Hp → Prop, (∀ H', Nx H' → ∃ m', m' < m ∧ W (i + 1) m' H') ∧ ∀ x H', (Itl K a).yld i H x H' → g x (wipe σ vs) H' fun σ2 H2 => wipe σ2 vs = wipe σ vs ∧ tt σ2 H2 fun b H3 =>
        if b = true then te σ2 H3 fun y H4 => ∃ (k : Str) (l : List Str), y = .str k ∧ H4 D = some (SetT P w D l) ∧ l.length + 1 < scanBound ∧ Nx (upd H4 D (SetT P w D (if k ∈ l then l else k :: l))) else Nx H3) := by
  refine ⟨fun i m H => m + i = xs.length ∧ Pv i H, ⟨xs.length, rfl, h0⟩, ?_⟩
  rintro i m H ⟨hm, pv⟩
  have q := hl i H pv
  by_cases lt : i < xs.length
  · refine .inr ⟨⟨xs, xs[i], q, List.getElem?_eq_getElem lt⟩, Pv (i + 1), fun H' p' => ⟨m - 1, by omega, by omega, p'⟩, ?_⟩
    rintro x H' ⟨rfl, y⟩
    exact hs i x _ (y xs q) pv
  · obtain rfl : i = xs.length := by omega
    exact .inl ⟨⟨xs, q, Nat.le_refl _⟩, hd H pv⟩
end L2.Fu
/-! ## set(xs), xs a list of texts -/
namespace L2.Fu
open PySem PySem.Spec PyProof.Rows
open PySem.Froz (SD sObj TxOk addTx tailTx add_x add_ok is_str get_upd)
def addL (l : List Str) (k : Str) : List Str := if k ∈ l then l else k :: l
theorem mem_addL {l : List Str} {k x : Str} : x ∈ addL l k ↔ x ∈ l ∨ x = k := by
  unfold addL
  split
  · rename_i h
    exact ⟨.inl, fun z => z.elim id fun e => e ▸ h⟩
  · rw [List.mem_cons]
    exact Or.comm
theorem len_addL (l : List Str) (k : Str) : (addL l k).length ≤ l.length + 1 := by
  unfold addL
  split
  · exact Nat.le_succ _
  · exact Nat.le_refl _
def allL (ts : List Str) : List Str := ts.foldl addL []
theorem allL_snoc (ts : List Str) (k : Str) : allL (ts ++ [k]) = addL (allL ts) k := by
  unfold allL
  rw [List.foldl_append]
  rfl
theorem fold_mem : ∀ (ts l : List Str) (x : Str), x ∈ ts.foldl addL l ↔ x ∈ l ∨ x ∈ ts
  | [], l, x => by simp
  | t :: ts, l, x => by
    rw [List.foldl_cons, fold_mem ts, mem_addL, List.mem_cons]
    exact or_assoc
theorem mem_allL (ts : List Str) (x : Str) : x ∈ allL ts ↔ x ∈ ts := by
  unfold allL
  rw [fold_mem]
  simp
theorem fold_len : ∀ (ts l : List Str), (ts.foldl addL l).length ≤ l.length + ts.length
  | [], l => Nat.le_refl _
  | t :: ts, l => by
    have a := fold_len ts (addL l t)
    have b := len_addL l t
    rw [List.foldl_cons, List.length_cons]
    omega
theorem len_allL (ts : List Str) : (allL ts).length ≤ ts.length := by
  have := fold_len ts []
  simpa [allL] using this
theorem strs_get : ∀ {us : List Value} {xs : List Str} {i : Nat} {v : Value}, StrsAre us xs → us[i]? = some v → ∃ t x, xs[i]? = some x ∧ v = .str x t
  | _, _, _, _, .nil, e => by simp at e
  | _, _, 0, _, .cons y t _, e => by simp at e; exact ⟨t, y, rfl, e.symm⟩
  | _, _, i + 1, v, .cons y t r, e => by
    obtain ⟨t', x, h1, h2⟩ := strs_get (i := i) (v := v) r (by simpa using e)
    exact ⟨t', x, by simpa using h1, h2⟩
section
variable {P : Program} {w : World} {A : Around} {E : Value → Shared → Prop} {s : Shared}
theorem code_newT (v : Value) {Q1 : Value → Shared → Prop}
    (h : Q1 (.ref s.heap.objs.size) { s with heap := s.heap.push { cls := .type "set", dict := none, data := .set #[] 0 (.fresh 0 0 (!w.params.followText "set-order")) } }) :
    codeAny (model P w) A (.call (.builtin "set.__new__") ⟨[.type "set", v], []⟩) (wants Q1 E) s := by
  refine codeAny_of_tree ?_
  show wpAny _ A.in1 (checkBuiltinCall "set.__new__" ⟨[.type "set", v], []⟩ >>= fun _ => again (.builtin "set.__new__" ⟨[.type "set", v], []⟩)) _ _ s
  refine wpAny_bind (wpAny_of_eq (PySem.F.newCall_set_1 v) (wpAny_pure ⟨plainId_quiet PySem.F.plain_set_new _, codeAny_builtin PySem.F.entry_set_new ?_⟩))
  rw [Around.under_plainId PySem.F.plain_set_new _]
  unfold Builtin.«set.__new__» Builtin.Frozenset.newClass
  have hsub := sub_set_self
  obtain ⟨hp, g, d, tk, os⟩ := s
  dsimp only
  wp_walk
  refine wpAny_askSetting (wpAny_pure ?_)
  dsimp only
  simp only [newObj]
  exact wpAny_bind (wpAny_alloc (wpAny_pure (wpAny_pure h)))
/-- the texts of what is walked are added one by one -/
theorem loopT {R : Result → Shared → Prop} {I : Addr} {fp wr : List Addr} {G : Array GenState → Array GenState → Prop} {ts : List Str} {Pv : Nat → Value → Prop} {St : Nat → Shared → Prop} (W : WalksS P w A.in1 I fp wr G ts.length Pv St) (S : Addr) (hSf : S ∉ fp)
    (hv : ∀ i v, Pv i v → ∃ t x, ts[i]? = some x ∧ v = .str x t) (hb : ts.length + 1 < scanBound) :
    ∀ (k i : Nat) (s : Shared), ts.length - i = k → i ≤ ts.length → St i s → TxR P w s.heap S (allL (ts.take i)) →
      (∀ s', Moved (S :: wr) G s s' → TxR P w s'.heap S (allL ts) → R (.ok (.ret .none)) s') → codeAny (model P w) A (.builtin "set.update.loop" ⟨[.ref S, .ref I], []⟩) R s := by
  have off : S ∉ wr := fun h => hSf (W.sub _ h)
  have sub : ∀ b ∈ wr, b ∈ S :: wr := fun b hb => List.mem_cons_of_mem _ hb
  intro k
  induction k with
  | zero =>
    intro i s hk hi st R0 done
    obtain rfl : i = ts.length := by omega
    rw [List.take_length] at R0
    refine codeAny_builtin PyProof.Rows.F.entry_set_update_loop ?_
    rw [Around.under_plainId PyProof.Rows.F.plain_set_update_loop _]
    show wpAny _ A.in1 (pyNext (.ref I) >>= _) _ _ s
    refine wpAny_bind (W.done s _ _ st fun s' hm => ?_)
    show wpAny _ A.in1 (ret Value.none) _ _ s'
    exact wpAny_pure (done s' (hm.mono sub) (R0.at fun o e => hm.heap S _ off e))
  | succ k ih =>
    intro i s hk hi st R0 done
    have lt : i < ts.length := by omega
    refine codeAny_builtin PyProof.Rows.F.entry_set_update_loop ?_
    rw [Around.under_plainId PyProof.Rows.F.plain_set_update_loop _]
    show wpAny _ A.in1 (pyNext (.ref I) >>= _) _ _ s
    refine wpAny_bind (W.item i s _ _ lt st fun v s' hP st' hm => ?_)
    obtain ⟨t, x, hx, rfl⟩ := hv i v hP
    have R1 : TxR P w s'.heap S (allL (ts.take i)) := R0.at fun o e => hm.heap S _ off e
    have l1 := len_allL (ts.take i)
    rw [List.length_take] at l1
    have tk1 : ts.take (i + 1) = ts.take i ++ [x] := by rw [List.take_add_one, hx]; rfl
    show wpAny _ A.in1 (holding [Value.str x t] (setAdd S (.str x t)) >>= _) _ _ s'
    refine wpAny_bind (wpAny_holding ?_)
    unfold setAdd
    refine wpAny_holding (wpAny_bind ((strKind P w).pyHash (is_str x t) ?_))
    obtain ⟨D, e, F, nd, hb0, r, ld⟩ := R1
    have goOn : ∀ (h' : Heap), Heap.SameBut S s'.heap h' → TxR P w h' S (addL (allL (ts.take i)) x) → codeAny (model P w) A (.builtin "set.update.loop" ⟨[.ref S, .ref I], []⟩) R { s' with heap := h', toks := s'.toks + 1 } := by
      intro h' sb R2
      rw [← allL_snoc, ← tk1] at R2
      refine ih (i + 1) _ (by omega) lt (W.frame _ s' _ _ st' (Nat.le_succ _) fun b hb o e => ?_) R2 fun s2 hm2 R3 => ?_
      · rw [sb.2 b (fun z : b = S => hSf (by rw [← z]; exact hb))]
        exact e
      · refine done s2 (Moved.trans W.gtrans ((hm.mono sub).then_heap (Nat.le_succ _) fun b o hb e => ?_) hm2) R3
        rw [sb.2 b (fun z : b = S => hb (by rw [z]; exact List.mem_cons_self))]
        exact e
    by_cases hk : x ∈ allL (ts.take i)
    · refine had_x (s := { s' with toks := s'.toks + 1 }) e F hk hb0 ?_
      exact wpAny_pure ⟨plainId_quiet PyProof.Rows.F.plain_set_update_loop _, goOn _ (Heap.SameBut.refl S s'.heap) (by unfold addL; rw [if_pos hk]; exact ⟨D, e, F, nd, hb0, r, ld⟩)⟩
    · have room : (allL (ts.take i)).length + 1 < scanBound := by omega
      refine add_x (s := { s' with toks := s'.toks + 1 }) e F hk room ?_
      refine wpAny_pure ⟨plainId_quiet PyProof.Rows.F.plain_set_update_loop _, goOn _ (Heap.SameBut.update s'.heap S _) ?_⟩
      unfold addL
      rw [if_neg hk]
      exact ⟨_, get_upd _ e rfl, add_ok t F, List.nodup_cons.mpr ⟨hk, nd⟩, room, ris_add _ _ r, ld.imp id fun z => by rw [led_add]; exact z⟩
/-- set(xs) at the library's level -/
theorem set_of_list {l : Addr} {items : Array Value} {ts : List Str} {Q : Value → Shared → Prop} (hh : A.handled = none) (hl : s.heap.IsList l items) (hi : StrsAre items.toList ts) (hb : ts.length + 1 < scanBound)
    (h : ∀ (h' : Heap) (tk : Nat), TxR P w h' s.heap.objs.size (allL ts) → (∀ b o, s.heap.get? b = some o → h'.get? b = some o) → Q (.ref s.heap.objs.size) { s with heap := h', toks := tk }) :
    wpAny (model P w) A (call (.type "set") [.ref l]) Q E s := by
  obtain ⟨c, tl, hmro⟩ := PySem.F.called_set.mro
  have hmade := PySem.F.called_set.made
  have hsub := PySem.F.called_set.sub
  refine wpAny_call (codeAny_of_tree ?_)
  show wpAny _ _ (callAny (.type "set") _) _ _ _
  refine wpAny_pure ⟨Code.quiet_builtin _ (by decide +kernel), codeAny_builtin PySem.F.entry_type_call ?_⟩
  rw [Around.under_plain (weight_type_call_type "set" [.ref l] []) rfl]
  have h1 := PySem.F.called_set.notType
  have h2 := PySem.F.called_set.canCreate
  have hct := PySem.F.typeCall_set_1 (.ref l)
  repeat (any_goals (first | assumption | wp_step))
  refine codeAny_mono (code_newT (.ref l) (E := E) (Q1 := fun obj t => obj = .ref s.heap.objs.size ∧ t = { s with heap := s.heap.push { cls := .type "set", dict := none, data := .set #[] 0 (.fresh 0 0 (!w.params.followText "set-order")) } }) ⟨rfl, rfl⟩) fun r t hr => ?_
  match r, hr with
  | .error e, hr => exact hr
  | .ok .next, hr => exact hr.elim
  | .ok .brk, hr => exact hr.elim
  | .ok .cont, hr => exact hr.elim
  | .ok (.ret obj), hr =>
    obtain ⟨rfl, rfl⟩ := hr
    generalize hz : s.heap.push { cls := .type "set", dict := none, data := .set #[] 0 (.fresh 0 0 (!w.params.followText "set-order")) } = hS
    have new : TxR P w hS s.heap.objs.size [] := by rw [← hz]; exact fresh_T
    have keep : ∀ b o, s.heap.get? b = some o → hS.get? b = some o := fun b o e => by rw [← hz]; exact Heap.get?_push_of_some _ e
    have size : hS.objs.size = s.heap.objs.size + 1 := by rw [← hz, Heap.size_push]
    have hT : Shared.TypeIs { s with heap := hS } (.ref s.heap.objs.size) "set" := new.setOf.typeIs
    have hli := PySem.F.called_set.init.lookup
    have hbi := PySem.F.called_set.init.bind (.ref s.heap.objs.size)
    repeat (any_goals (first | assumption | wp_step))
    refine codeAny_mono (codeAny_call_builtin (R := wants (fun r s2 => r = .none ∧ ∃ h' tk, s2 = { s with heap := h', toks := tk } ∧ TxR P w h' s.heap.objs.size (allL ts) ∧ (∀ b o, s.heap.get? b = some o → h'.get? b = some o)) E)
      PySem.F.called_set.init.plain PySem.F.entry_set_init (check_set_init_1 hT ?_)) fun r2 s2 hr2 => ?_
    · obtain ⟨ol, hol, hcl, nl, hdl⟩ := id hl
      obtain ⟨ocls, odict, odata, oslots⟩ := ol
      simp only at hcl hdl
      subst hcl
      subst hdl
      have hol2 : hS.get? l = some { cls := .type "list", dict := odict, data := .seq items nl, slots := oslots } := keep _ _ hol
      have hsls := PySem.F.sub_list_set
      have hslf := PySem.F.sub_list_frozenset
      have hne : (Value.type "list" == Value.type "dict") = false := by decide
      have hl2 : hS.IsList l items := ⟨_, hol2, rfl, nl, rfl⟩
      obtain ⟨D0, e0, F0, _⟩ := id new
      have hS0 : hS.get? s.heap.objs.size = some { cls := .type "set", dict := none, data := .set #[] 0 (.fresh 0 0 (!w.params.followText "set-order")) } := by rw [← hz]; exact Heap.get?_push_size _ rfl
      unfold Builtin.«set.__init__» noKeywords Builtin.Frozenset.updateFrom
      generalize hPI : pyIter = PI
      wp_walk
      subst hPI
      refine wpAny_pyIter_list hl2 (wpAny_bind (wpAny_runValue ?_))
      have low : l < s.heap.objs.size := Heap.lt_size hol
      have nI : l ≠ hS.objs.size := by rw [size]; exact Nat.ne_of_lt (Nat.lt_succ_of_lt low)
      have nf : s.heap.objs.size ∉ [hS.objs.size, l] := by
        rw [size]
        simp only [List.mem_cons, List.not_mem_nil, or_false, not_or]
        exact ⟨Nat.ne_of_lt (Nat.lt_succ_self _), Nat.ne_of_gt low⟩
      have lt : items.size = ts.length := by rw [← Array.length_toList]; exact hi.length
      have walk := (Walks.list (prog := P) (w := w) (A := A.in1.in1.in1) (by simp [hh]) hS.objs.size l nI items).toS
      rw [lt] at walk
      refine loopT walk s.heap.objs.size nf (fun i v hv => ?_) hb (ts.length - 0) 0 _ rfl (Nat.zero_le _) ⟨⟨_, Heap.get?_push_size _ rfl, rfl, rfl⟩, hl2.push _⟩ (new.at fun o e => Heap.get?_push_of_some _ e) fun s3 hm R3 => ?_
      · have hv' : items.toList[i]? = some v := by rw [Array.getElem?_toList]; exact hv
        exact strs_get hi hv'
      · obtain ⟨h3, g3, d3, tk3, os3⟩ := s3
        have eg : g3 = s.gens := hm.gens
        have ed : d3 = s.drawn := hm.drawn
        have eo : os3 = s.os := hm.os
        subst eg
        subst ed
        subst eo
        show wpAny _ _ _ _ _ _
        refine wpAny_pure ?_
        show wpAny _ _ (ret Value.none) _ _ _
        refine wpAny_pure ⟨rfl, h3, tk3, rfl, R3, fun b o e => ?_⟩
        have lb : b < s.heap.objs.size := Heap.lt_size e
        refine hm.heap b o ?_ (Heap.get?_push_of_some _ (keep b o e))
        simp only [List.mem_cons, List.not_mem_nil, or_false, not_or]
        rw [size]
        exact ⟨Nat.ne_of_lt lb, Nat.ne_of_lt (Nat.lt_succ_of_lt lb)⟩
    · match r2, hr2 with
      | .error e, hr2 => exact hr2
      | .ok .next, hr2 => exact hr2.elim
      | .ok .brk, hr2 => exact hr2.elim
      | .ok .cont, hr2 => exact hr2.elim
      | .ok (.ret r), hr2 =>
        obtain ⟨rfl, h', tk, rfl, R3, k3⟩ := hr2
        repeat (any_goals (first | assumption | wp_step))
        exact h _ _ R3 k3
end
section
variable {X : Cx}
def rSetOfL (K : PySem.W.Frag) (P : Program) (w : World) : List V → Hp → VK → Prop := fun xs H Q => ∃ (a : Addr) (ts : List Str), xs = [.ref a] ∧ SqL K H a (ts.map V.str) ∧ ts.length + 1 < scanBound ∧ ∀ p, H p = none → Q (.ref p) (upd H p (SetT P w p (allL ts)))
theorem cr_setOfL (hc : X.calm = true) : CallR X (.type "set") (rSetOfL X.K X.prog X.w) := by
  intro pins s σ H xs us Q I r h
  obtain ⟨a, ts, rfl, hs, hb, q⟩ := h
  obtain ⟨u, rfl, ru⟩ := vals1 r
  cases ru
  obtain ⟨its, rv, hl, _⟩ := I.list hs
  refine set_of_list (I.ok.hd hc) hl.isList (by simpa using rv.strs) hb fun h' tk R k => ?_
  exact ⟨.ref _, upd H s.heap.objs.size (SetT X.prog X.w s.heap.objs.size (allL ts)), I.laid (t' := tk) k (Nat.le_refl _) (setT_new R), rfl, q _ (I.hok.fresh (Nat.le_refl _))⟩
end
end L2.Fu
/-! ## xs.extend(a tuple) -/
namespace L2.Fu
open PySem PySem.Spec PyProof.Rows
theorem meets_extT (l : Addr) (items : Array Value) (n : Nat) (b : Addr) (dd : Option Addr) (items2 : Array Value) (n2 : Nat) (sl : Array (Option Value)) (c0 : ¬(!items.isEmpty && Builtin.List.listTooLong (items.size + items2.size)) = true) (c1 : items.size ≤ sizeLine) (c2 : items.size + items2.size ≤ sizeLine + 1) :
    Meets (Builtin.«list.extend» ⟨[.ref l, .ref b], []⟩) (fun _ R s => s.heap.get? l = some { cls := .type "list", dict := none, data := .seq items n, slots := #[] } ∧ s.heap.get? b = some ⟨.type "tuple", dd, .seq items2 n2, sl⟩ ∧
      R (.ok (.ret Value.none)) { s with heap := s.heap.update l (Obj.mapSeq fun x => x ++ items2), toks := s.toks }) :=
  .of_wp fun prog w A R s h => by
    obtain ⟨hp, g, d, tk, os⟩ := s
    obtain ⟨hl, hb, h⟩ := h
    have f2 := sub_tuple_tuple
    have f3 := sub_list_list
    have f4 := sub_tuple_list
    have f5 := sub_list_tuple
    have big : (items ++ items2).size ≤ sizeLine + 1 := by rw [Array.size_append]; exact c2
    wp_walk using (wpAny_updateSeq hl rfl (hz := c1) (_hz' := big)), wpAny_loadPart' hl, wpAny_loadPart' hb
    exact ⟨_, rfl, h⟩
def rExtT (K : PySem.W.Frag) : V → List V → Hp → VK → Prop := fun x vs H Q => ∃ (l b : Addr) (xs zs : List V), x = .ref l ∧ vs = [.ref b] ∧ H l = some (.lst xs) ∧ SqT K H b zs ∧ xs.length + zs.length ≤ sizeLine ∧ Q .non (upd H l (.lst (xs ++ zs)))
theorem mt_extT {X : Cx} : MtM X "list.extend" (rExtT X.K) := by
  intro pins s σ H x vs v us Q I rx rv h
  obtain ⟨l, b, xs, zs, rfl, rfl, hH, hB, hz, q⟩ := h
  cases rx
  obtain ⟨u, rfl, ru⟩ := vals1 rv
  cases ru
  obtain ⟨z, its, n, r, el, e⟩ := I.lstM hH
  obtain ⟨its2, r2, ⟨o, e2, oc, n2, od⟩, z2⟩ := I.tuple hB
  obtain ⟨c, dd, dt, sl⟩ := o
  dsimp only at oc od
  subst oc od
  have l2 := r2.length
  have few : its.toArray.size + its2.toArray.size ≤ sizeLine := by rw [List.size_toArray, List.size_toArray]; omega
  have nl : ¬ (!its.toArray.isEmpty && Builtin.List.listTooLong (its.toArray.size + its2.toArray.size)) = true := by
    rw [notLongL few, Bool.and_false]
    exact Bool.false_ne_true
  refine call_meets F.slot_list_extend ⟨_, e, rfl⟩ F.entry_list_extend (F.args_list_extend_2 _ _) (meets_extT l its.toArray n b dd its2.toArray n2 sl nl (by rw [List.size_toArray]; omega) (by omega)) ⟨e, e2, ?_⟩
  refine ⟨.non, _, I.lset (its' := its ++ its2) hH e (by simp) (r.append r2) ?_, rfl, q⟩
  rw [List.length_append]
  exact hz
end L2.Fu
/-! ## set(t), t a tuple of texts -/
namespace L2.Fu
open PySem PySem.Spec PyProof.Rows
section
variable {P : Program} {w : World} {A : Around} {E : Value → Shared → Prop} {s : Shared}

theorem set_of_tup {l : Addr} {items : Array Value} {ts : List Str} {Q : Value → Shared → Prop} (hh : A.handled = none) (hl : s.heap.IsTuple l items) (hi : StrsAre items.toList ts) (hb : ts.length + 1 < scanBound)
    (h : ∀ (h' : Heap) (tk : Nat), TxR P w h' s.heap.objs.size (allL ts) → (∀ b o, s.heap.get? b = some o → h'.get? b = some o) → Q (.ref s.heap.objs.size) { s with heap := h', toks := tk }) :
    wpAny (model P w) A (call (.type "set") [.ref l]) Q E s := by
  obtain ⟨c, tl, hmro⟩ := PySem.F.called_set.mro
  have hmade := PySem.F.called_set.made
  have hsub := PySem.F.called_set.sub
  refine wpAny_call (codeAny_of_tree ?_)
  show wpAny _ _ (callAny (.type "set") _) _ _ _
  refine wpAny_pure ⟨Code.quiet_builtin _ (by decide +kernel), codeAny_builtin PySem.F.entry_type_call ?_⟩
  rw [Around.under_plain (weight_type_call_type "set" [.ref l] []) rfl]
  have h1 := PySem.F.called_set.notType
  have h2 := PySem.F.called_set.canCreate
  have hct := PySem.F.typeCall_set_1 (.ref l)
  repeat (any_goals (first | assumption | wp_step))
  refine codeAny_mono (code_newT (.ref l) (E := E) (Q1 := fun obj t => obj = .ref s.heap.objs.size ∧ t = { s with heap := s.heap.push { cls := .type "set", dict := none, data := .set #[] 0 (.fresh 0 0 (!w.params.followText "set-order")) } }) ⟨rfl, rfl⟩) fun r t hr => ?_
  match r, hr with
  | .error e, hr => exact hr
  | .ok .next, hr => exact hr.elim
  | .ok .brk, hr => exact hr.elim
  | .ok .cont, hr => exact hr.elim
  | .ok (.ret obj), hr =>
    obtain ⟨rfl, rfl⟩ := hr
    generalize hz : s.heap.push { cls := .type "set", dict := none, data := .set #[] 0 (.fresh 0 0 (!w.params.followText "set-order")) } = hS
    have new : TxR P w hS s.heap.objs.size [] := by rw [← hz]; exact fresh_T
    have keep : ∀ b o, s.heap.get? b = some o → hS.get? b = some o := fun b o e => by rw [← hz]; exact Heap.get?_push_of_some _ e
    have size : hS.objs.size = s.heap.objs.size + 1 := by rw [← hz, Heap.size_push]
    have hT : Shared.TypeIs { s with heap := hS } (.ref s.heap.objs.size) "set" := new.setOf.typeIs
    have hli := PySem.F.called_set.init.lookup
    have hbi := PySem.F.called_set.init.bind (.ref s.heap.objs.size)
    repeat (any_goals (first | assumption | wp_step))
    refine codeAny_mono (codeAny_call_builtin (R := wants (fun r s2 => r = .none ∧ ∃ h' tk, s2 = { s with heap := h', toks := tk } ∧ TxR P w h' s.heap.objs.size (allL ts) ∧ (∀ b o, s.heap.get? b = some o → h'.get? b = some o)) E)
      PySem.F.called_set.init.plain PySem.F.entry_set_init (check_set_init_1 hT ?_)) fun r2 s2 hr2 => ?_
    · obtain ⟨ol, hol, hcl, nl, hdl⟩ := id hl
      obtain ⟨ocls, odict, odata, oslots⟩ := ol
      simp only at hcl hdl
      subst hcl
      subst hdl
      have hol2 : hS.get? l = some { cls := .type "tuple", dict := odict, data := .seq items nl, slots := oslots } := keep _ _ hol
      have hsls := PySem.F.sub_tuple_set
      have hslf := PySem.F.sub_tuple_frozenset
      have hne : (Value.type "tuple" == Value.type "dict") = false := by decide
      have hl2 : hS.IsTuple l items := ⟨_, hol2, rfl, nl, rfl⟩
      obtain ⟨D0, e0, F0, _⟩ := id new
      have hS0 : hS.get? s.heap.objs.size = some { cls := .type "set", dict := none, data := .set #[] 0 (.fresh 0 0 (!w.params.followText "set-order")) } := by rw [← hz]; exact Heap.get?_push_size _ rfl
      unfold Builtin.«set.__init__» noKeywords Builtin.Frozenset.updateFrom
      generalize hPI : pyIter = PI
      wp_walk
      subst hPI
      refine wpAny_pyIter_tuple hl2 (wpAny_bind (wpAny_runValue ?_))
      have low : l < s.heap.objs.size := Heap.lt_size hol
      have nI : l ≠ hS.objs.size := by rw [size]; exact Nat.ne_of_lt (Nat.lt_succ_of_lt low)
      have nf : s.heap.objs.size ∉ [hS.objs.size, l] := by
        rw [size]
        simp only [List.mem_cons, List.not_mem_nil, or_false, not_or]
        exact ⟨Nat.ne_of_lt (Nat.lt_succ_self _), Nat.ne_of_gt low⟩
      have lt : items.size = ts.length := by rw [← Array.length_toList]; exact hi.length
      have walk := (Walks.tuple (prog := P) (w := w) (A := A.in1.in1.in1) (by simp [hh]) hS.objs.size l nI items).toS
      rw [lt] at walk
      refine loopT walk s.heap.objs.size nf (fun i v hv => ?_) hb (ts.length - 0) 0 _ rfl (Nat.zero_le _) ⟨⟨_, Heap.get?_push_size _ rfl, rfl, rfl⟩, hl2.push _⟩ (new.at fun o e => Heap.get?_push_of_some _ e) fun s3 hm R3 => ?_
      · have hv' : items.toList[i]? = some v := by rw [Array.getElem?_toList]; exact hv
        exact strs_get hi hv'
      · obtain ⟨h3, g3, d3, tk3, os3⟩ := s3
        have eg : g3 = s.gens := hm.gens
        have ed : d3 = s.drawn := hm.drawn
        have eo : os3 = s.os := hm.os
        subst eg
        subst ed
        subst eo
        show wpAny _ _ _ _ _ _
        refine wpAny_pure ?_
        show wpAny _ _ (ret Value.none) _ _ _
        refine wpAny_pure ⟨rfl, h3, tk3, rfl, R3, fun b o e => ?_⟩
        have lb : b < s.heap.objs.size := Heap.lt_size e
        refine hm.heap b o ?_ (Heap.get?_push_of_some _ (keep b o e))
        simp only [List.mem_cons, List.not_mem_nil, or_false, not_or]
        rw [size]
        exact ⟨Nat.ne_of_lt lb, Nat.ne_of_lt (Nat.lt_succ_of_lt lb)⟩
    · match r2, hr2 with
      | .error e, hr2 => exact hr2
      | .ok .next, hr2 => exact hr2.elim
      | .ok .brk, hr2 => exact hr2.elim
      | .ok .cont, hr2 => exact hr2.elim
      | .ok (.ret r), hr2 =>
        obtain ⟨rfl, h', tk, rfl, R3, k3⟩ := hr2
        repeat (any_goals (first | assumption | wp_step))
        exact h _ _ R3 k3
end
section
variable {X : Cx}
def rSetOfT (K : PySem.W.Frag) (P : Program) (w : World) : List V → Hp → VK → Prop := fun xs H Q => ∃ (a : Addr) (ts : List Str), xs = [.ref a] ∧ SqT K H a (ts.map V.str) ∧ ts.length + 1 < scanBound ∧ ∀ p, H p = none → Q (.ref p) (upd H p (SetT P w p (allL ts)))
theorem cr_setOfT (hc : X.calm = true) : CallR X (.type "set") (rSetOfT X.K X.prog X.w) := by
  intro pins s σ H xs us Q I r h
  obtain ⟨a, ts, rfl, hs, hb, q⟩ := h
  obtain ⟨u, rfl, ru⟩ := vals1 r
  cases ru
  obtain ⟨its, rv, hl, _⟩ := I.tuple hs
  refine set_of_tup (I.ok.hd hc) hl (by simpa using rv.strs) hb fun h' tk R k => ?_
  exact ⟨.ref _, upd H s.heap.objs.size (SetT X.prog X.w s.heap.objs.size (allL ts)), I.laid (t' := tk) k (Nat.le_refl _) (setT_new R), rfl, q _ (I.hok.fresh (Nat.le_refl _))⟩
end
end L2.Fu
/-! ## Formulas -/
namespace L2.Fu
open PySem PySem.Spec PyProof.Rows
inductive Fm where
  | ft (x : Str)
  | nd (h : Str) (ps : List Fm)
mutual
def subs : Fm → List Fm
  | .ft x => [.ft x]
  | .nd h ps => .nd h ps :: subsAll ps
def subsAll : List Fm → List Fm
  | [] => []
  | p :: ps => subs p ++ subsAll ps
end
mutual
/-- the features that stand in it, from the left -/
def feats : Fm → List Str
  | .ft x => [x]
  | .nd _ ps => featsAll ps
def featsAll : List Fm → List Str
  | [] => []
  | p :: ps => feats p ++ featsAll ps
end
mutual
/-- how often "not" stands in it -/
def nots : Fm → Nat
  | .ft _ => 0
  | .nd h ps => (if h = "not" then 1 else 0) + notsAll ps
def notsAll : List Fm → Nat
  | [] => 0
  | p :: ps => nots p + notsAll ps
end
mutual
def datOf : Fm → PyData
  | .ft x => .tuple [.str "feature", .str x]
  | .nd h ps => .tuple (.str h :: datAll ps)
def datAll : List Fm → List PyData
  | [] => []
  | p :: ps => datOf p :: datAll ps
end
mutual
def tall : Fm → Nat
  | .ft _ => 1
  | .nd _ ps => tallAll ps + 1
def tallAll : List Fm → Nat
  | [] => 0
  | p :: ps => max (tall p) (tallAll ps)
end
def ten : List Str := ["a", "alloc", "b", "c", "d", "longname", "not", "std", "x", "zz"]
def heads : List Str := ["all", "any", "not"]
mutual
/-- its features are of the ten, its words the three, a not has one part -/
def Ok : Fm → Prop
  | .ft x => x ∈ ten
  | .nd h ps => h ∈ heads ∧ (h = "not" → ps.length = 1) ∧ OkAll ps
def OkAll : List Fm → Prop
  | [] => True
  | p :: ps => Ok p ∧ OkAll ps
end
def parts : Fm → List Fm
  | .ft _ => []
  | .nd _ ps => ps
theorem subs_parts (f : Fm) : subs f = f :: subsAll (parts f) := by
  cases f with
  | ft x => simp only [subs, parts, subsAll]
  | nd h ps => simp only [subs, parts]
theorem subsAll_append : ∀ as bs : List Fm, subsAll (as ++ bs) = subsAll as ++ subsAll bs
  | [], bs => by simp only [subsAll, List.nil_append]
  | a :: as, bs => by simp only [subsAll, List.cons_append, subsAll_append as bs, List.append_assoc]
def ftOf : Fm → Option Str
  | .ft x => some x
  | .nd _ _ => none
mutual
theorem feats_subs : ∀ f : Fm, (subs f).filterMap ftOf = feats f
  | .ft x => by simp only [subs, feats]; rfl
  | .nd h ps => by
    simp only [subs, feats]
    rw [List.filterMap_cons_none (show ftOf (.nd h ps) = none from rfl)]
    exact feats_subsAll ps
theorem feats_subsAll : ∀ ps : List Fm, (subsAll ps).filterMap ftOf = featsAll ps
  | [] => by simp only [subsAll, featsAll]; rfl
  | p :: ps => by simp only [subsAll, featsAll, List.filterMap_append, feats_subs p, feats_subsAll ps]
end
def isNot : Fm → Bool
  | .ft _ => false
  | .nd h _ => decide (h = "not")
mutual
theorem nots_subs : ∀ f : Fm, nots f = 0 ↔ ∀ g ∈ subs f, isNot g = false
  | .ft x => by
    simp only [subs, nots, List.mem_singleton]
    exact ⟨fun _ g e => by rw [e]; rfl, fun _ => trivial⟩
  | .nd h ps => by
    simp only [subs, nots, List.mem_cons]
    have ih := nots_subsAll ps
    constructor
    · intro z g hg
      have z1 : (if h = "not" then 1 else 0) = 0 := by omega
      have z2 : notsAll ps = 0 := by omega
      rcases hg with rfl | hg
      · show decide (h = "not") = false
        refine decide_eq_false fun e => ?_
        rw [if_pos e] at z1
        cases z1
      · exact ih.mp z2 g hg
    · intro z
      have z1 : decide (h = "not") = false := z (.nd h ps) (.inl rfl)
      rw [if_neg (of_decide_eq_false z1), ih.mpr fun g hg => z g (.inr hg)]
theorem nots_subsAll : ∀ ps : List Fm, notsAll ps = 0 ↔ ∀ g ∈ subsAll ps, isNot g = false
  | [] => by
    simp only [subsAll, notsAll]
    exact ⟨fun _ g h => absurd h List.not_mem_nil, fun _ => trivial⟩
  | p :: ps => by
    simp only [subsAll, notsAll, List.mem_append]
    have a := nots_subs p
    have b := nots_subsAll ps
    constructor
    · intro z g hg
      exact hg.elim (a.mp (by omega) g) (b.mp (by omega) g)
    · intro z
      rw [a.mpr fun g hg => z g (.inl hg), b.mpr fun g hg => z g (.inr hg)]
end
theorem one_subs : ∀ f : Fm, 1 ≤ (subs f).length
  | .ft x => by simp only [subs]; exact Nat.le_refl 1
  | .nd h ps => by simp only [subs, List.length_cons]; omega
mutual
theorem feats_len : ∀ f : Fm, (feats f).length ≤ (subs f).length
  | .ft x => by simp only [subs, feats]; exact Nat.le_refl _
  | .nd h ps => by
    simp only [subs, feats, List.length_cons]
    have := featsAll_len ps
    omega
theorem featsAll_len : ∀ ps : List Fm, (featsAll ps).length ≤ (subsAll ps).length
  | [] => by simp only [subsAll, featsAll]; exact Nat.le_refl _
  | p :: ps => by
    simp only [subsAll, featsAll, List.length_append]
    have := feats_len p
    have := featsAll_len ps
    omega
end
mutual
theorem feats_ten : ∀ f : Fm, Ok f → ∀ x ∈ feats f, x ∈ ten
  | .ft y, h, x, hx => by
    simp only [feats, List.mem_singleton] at hx
    simp only [Ok] at h
    exact hx ▸ h
  | .nd w ps, h, x, hx => by
    simp only [feats] at hx
    simp only [Ok] at h
    exact featsAll_ten ps h.2.2 x hx
theorem featsAll_ten : ∀ ps : List Fm, OkAll ps → ∀ x ∈ featsAll ps, x ∈ ten
  | [], _, x, hx => by simp only [featsAll] at hx; cases hx
  | p :: ps, h, x, hx => by
    simp only [featsAll, List.mem_append] at hx
    simp only [OkAll] at h
    exact hx.elim (feats_ten p h.1 x) (featsAll_ten ps h.2 x)
end
theorem ten_short : ∀ x ∈ ten, (reprText x).length ≤ 10 := by decide +kernel
theorem heads_short : ∀ x ∈ heads, (reprText x).length ≤ 5 := by decide +kernel
theorem feature_short : (reprText "feature").length ≤ 9 := by decide +kernel
mutual
theorem shows_fm : ∀ f : Fm, Ok f → Shows (datOf f) (32 * (subs f).length - 2) (tall f)
  | .ft x, h => by
    simp only [Ok] at h
    simp only [datOf, subs, tall]
    exact (Shows.tup (.cons (shows_str (k := 0) feature_short) (.cons (shows_str (ten_short x h)) (.nil 0)))).more (by show 9 + 2 + (10 + 2 + 0) + 3 ≤ 32 * 1 - 2; decide) (by decide)
  | .nd w ps, h => by
    simp only [Ok] at h
    simp only [datOf, subs, tall, List.length_cons]
    have a := shows_fms ps h.2.2
    exact (Shows.tup (.cons (shows_str (k := tallAll ps) (heads_short w h.1)) a)).more (by omega) (Nat.le_refl _)
theorem shows_fms : ∀ ps : List Fm, OkAll ps → ShowsAll (datAll ps) (32 * (subsAll ps).length) (tallAll ps)
  | [], _ => by
    simp only [datAll, subsAll, tallAll]
    exact .nil 0
  | p :: ps, h => by
    simp only [OkAll] at h
    simp only [datAll, subsAll, tallAll, List.length_append]
    have a := (shows_fm p h.1).more (Nat.le_refl _) (Nat.le_max_left (tall p) (tallAll ps))
    have b := (shows_fms ps h.2).more (Nat.le_refl _) (Nat.le_max_right (tall p) (tallAll ps))
    have c := one_subs p
    exact (ShowsAll.cons a b).more (by omega) (Nat.le_refl _)
end

/-! ### formulas in the heap -/
mutual
inductive FmAt (H : Hp) : V → Fm → Prop
  | ft {a : Addr} {x : Str} : H a = some (.tup [.str "feature", .str x]) → FmAt H (.ref a) (.ft x)
  | nd {a : Addr} {h : Str} {vs : List V} {ps : List Fm} : H a = some (.tup (.str h :: vs)) → h ≠ "feature" → FmAll H vs ps → FmAt H (.ref a) (.nd h ps)
inductive FmAll (H : Hp) : List V → List Fm → Prop
  | nil : FmAll H [] []
  | cons {v : V} {vs : List V} {f : Fm} {fs : List Fm} : FmAt H v f → FmAll H vs fs → FmAll H (v :: vs) (f :: fs)
end
/-- all tuples are as they were -/
def SameT (H H' : Hp) : Prop := ∀ b xs, H b = some (.tup xs) → H' b = some (.tup xs)
theorem _root_.L2.Same.toT {H H' : Hp} (s : Same H H') : SameT H H' := fun b xs e => s b _ e
theorem SameT.trans {H H1 H2 : Hp} (a : SameT H H1) (b : SameT H1 H2) : SameT H H2 := fun c xs e => b c xs (a c xs e)
theorem sameT_lst {H : Hp} {l : Addr} {xs ys : List V} (e : H l = some (.lst xs)) : SameT H (upd H l (.lst ys)) := fun b zs k => by
  have ne : b ≠ l := fun z => by rw [z, e] at k; cases k
  rw [upd_ne ne]
  exact k
theorem FmAt.mono {H H' : Hp} (s : SameT H H') {v : V} {f : Fm} (h : FmAt H v f) : FmAt H' v f :=
  FmAt.rec (motive_1 := fun v f _ => FmAt H' v f) (motive_2 := fun vs fs _ => FmAll H' vs fs) (fun e => .ft (s _ _ e)) (fun e n _ q => .nd (s _ _ e) n q) .nil (fun _ _ a b => .cons a b) h
theorem FmAll.mono {H H' : Hp} (s : SameT H H') {vs : List V} {fs : List Fm} (h : FmAll H vs fs) : FmAll H' vs fs := by
  induction h using FmAll.rec (motive_1 := fun v d _ => True) with
  | nil => exact .nil
  | cons a _ _ b => exact .cons (a.mono s) b
  | _ => trivial
theorem FmAll.length {H : Hp} : ∀ {vs : List V} {fs : List Fm}, FmAll H vs fs → vs.length = fs.length
  | _, _, .nil => rfl
  | _, _, .cons _ t => by rw [List.length_cons, List.length_cons, FmAll.length t]
theorem FmAll.append {H : Hp} : ∀ {vs us : List V} {fs gs : List Fm}, FmAll H vs fs → FmAll H us gs → FmAll H (vs ++ us) (fs ++ gs)
  | _, _, _, _, .nil, s => s
  | _, _, _, _, .cons a t, s => .cons a (FmAll.append t s)
theorem FmAll.get {H : Hp} : ∀ {vs : List V} {fs : List Fm} {i : Nat} {v : V}, FmAll H vs fs → vs[i]? = some v → ∃ f, fs[i]? = some f ∧ FmAt H v f
  | _, _, _, _, .nil, e => by simp at e
  | _, _, 0, _, .cons a t, e => by simp at e; subst e; exact ⟨_, rfl, a⟩
  | _, _, i + 1, v, .cons a t, e => by
    obtain ⟨f, h1, h2⟩ := FmAll.get (i := i) (v := v) t (by simpa using e)
    exact ⟨f, by simpa using h1, h2⟩
/-- the last one, and those ahead of it -/
theorem FmAll.last {H : Hp} : ∀ {vs : List V} {fs : List Fm}, FmAll H vs fs → vs ≠ [] → ∃ (v : V) (f : Fm) (gs : List Fm), vs[vs.length - 1]? = some v ∧ fs = gs ++ [f] ∧ FmAt H v f ∧ FmAll H vs.dropLast gs
  | _, _, .nil, n => absurd rfl n
  | _, _, .cons (v := v) (f := f) a .nil, _ => ⟨v, f, [], rfl, rfl, a, .nil⟩
  | _, _, .cons (v := v) (f := f) a (.cons (vs := us) b t), _ => by
    obtain ⟨v', f', gs, h1, h2, h3, h4⟩ := FmAll.last (.cons b t) (by simp)
    refine ⟨v', f', f :: gs, ?_, by rw [h2]; rfl, h3, .cons a h4⟩
    simpa using h1
theorem FmAt.da {H : Hp} {v : V} {f : Fm} (h : FmAt H v f) : Da H v (datOf f) := by
  refine FmAt.rec (motive_1 := fun v f _ => Da H v (datOf f)) (motive_2 := fun vs fs _ => DaAll H vs (datAll fs)) ?_ ?_ ?_ ?_ h
  · intro a x e
    simp only [datOf]
    exact .tup e (.cons (.str _) (.cons (.str _) .nil))
  · intro a w vs ps e n _ q
    simp only [datOf]
    exact .tup e (.cons (.str _) q)
  · simp only [datAll]
    exact .nil
  · intro v vs f fs _ _ a b
    simp only [datAll]
    exact .cons a b
/-- a formula is a tuple whose first item is a word -/
theorem FmAt.shape {H : Hp} {v : V} {f : Fm} (h : FmAt H v f) : ∃ (a : Addr) (w : Str) (vs : List V), v = .ref a ∧ H a = some (.tup (.str w :: vs)) ∧
    ((∃ x, f = .ft x ∧ w = "feature" ∧ vs = [.str x]) ∨ (∃ ps, f = .nd w ps ∧ w ≠ "feature" ∧ FmAll H vs ps)) := by
  cases h with
  | ft e => exact ⟨_, _, _, rfl, e, .inl ⟨_, rfl, rfl, rfl⟩⟩
  | nd e n q => exact ⟨_, _, _, rfl, e, .inr ⟨_, rfl, n, q⟩⟩

/-! ### texts in order -/
def leT (x y : Str) : Prop := x.cps.toList ≤ y.cps.toList
theorem leT_trans {x y z : Str} (h : leT x y) (k : leT y z) : leT x z := List.le_trans h k
theorem leT_anti {x y : Str} (h : leT x y) (k : leT y x) : x = y := by
  obtain ⟨⟨a⟩⟩ := x
  obtain ⟨⟨b⟩⟩ := y
  have e : a = b := List.le_antisymm h k
  rw [e]
theorem rising_pair : ∀ (ys : List Str) (x : Str), risingS x ys = true → (x :: ys).Pairwise leT
  | [], x, _ => List.pairwise_singleton _ _
  | y :: ys, x, h => by
    have h' : (!ltCps y.cps.toList x.cps.toList && risingS y ys) = true := h
    obtain ⟨h1, h2⟩ := Bool.and_eq_true_iff.mp h'
    rw [ltCps_eq, Bool.not_eq_true', decide_eq_false_iff_not] at h1
    have xy : leT x y := List.not_lt.mp h1
    have t := rising_pair ys y h2
    refine List.pairwise_cons.mpr ⟨fun z hz => ?_, t⟩
    rcases List.mem_cons.mp hz with rfl | hz
    · exact xy
    · exact leT_trans xy ((List.pairwise_cons.mp t).1 z hz)
theorem sorted_pair : ∀ {ys : List Str}, sortedS ys = true → ys.Pairwise leT
  | [], _ => .nil
  | x :: ys, h => rising_pair ys x h
/-- two arrangements in order of the same texts are one -/
theorem sorted_one {xs ys : List Str} (hx : sortedS xs = true) (hy : sortedS ys = true) (p : xs.Perm ys) : xs = ys :=
  List.Perm.eq_of_pairwise (fun _ _ _ _ a b => leT_anti a b) (sorted_pair hx) (sorted_pair hy) p
/-- two lists without repetition that have the same members are arrangements of each other -/
theorem perm_of_mem {α : Type} [DecidableEq α] : ∀ {xs ys : List α}, xs.Nodup → ys.Nodup → (∀ x, x ∈ xs ↔ x ∈ ys) → xs.Perm ys
  | [], ys, _, _, h => by
    cases ys with
    | nil => exact .nil
    | cons y ys => exact absurd ((h y).mpr List.mem_cons_self) (List.not_mem_nil)
  | x :: xs, ys, nx, ny, h => by
    have hx : x ∈ ys := (h x).mp List.mem_cons_self
    have p := List.perm_cons_erase hx
    refine (List.Perm.cons x (perm_of_mem (List.nodup_cons.mp nx).2 (ny.erase x) fun z => ?_)).trans p.symm
    rw [ny.mem_erase_iff]
    constructor
    · intro hz
      exact ⟨fun e => (List.nodup_cons.mp nx).1 (e ▸ hz), (h z).mp (List.mem_cons_of_mem _ hz)⟩
    · rintro ⟨ne, hz⟩
      exact (List.mem_cons.mp ((h z).mpr hz)).resolve_left ne
/-- a list without repetition, all of it of the ten -/
theorem ten_len {l : List Str} (nd : l.Nodup) (h : ∀ x ∈ l, x ∈ ten) : l.length ≤ 10 := by
  have key : ∀ (l d : List Str), l.Nodup → (∀ x ∈ l, x ∈ d) → l.length ≤ d.length := by
    intro l
    induction l with
    | nil => intro d _ _; exact Nat.zero_le _
    | cons x l ih =>
      intro d nd h
      have hx := h x List.mem_cons_self
      have p := (List.perm_cons_erase hx).length_eq
      have q := ih (d.erase x) (List.nodup_cons.mp nd).2 fun y hy => (List.mem_erase_of_ne (fun (e : y = x) => (List.nodup_cons.mp nd).1 (e ▸ hy))).mpr (h y (List.mem_cons_of_mem _ hy))
      rw [List.length_cons] at p ⊢
      omega
  exact key l ten nd h
end L2.Fu
/-! ## Anything: what is asked of data -/
namespace L2.Fu
open PySem PySem.Spec PyProof.Rows
def tyD : PyData → String
  | .none => "NoneType" | .bool _ => "bool" | .int _ => "int" | .str _ => "str" | .list _ => "list" | .tuple _ => "tuple" | .dict _ => "dict"
theorem ty_da {K : PySem.W.Frag} {H : Hp} {v : V} {d : PyData} (h : Da H v d) : TyX K H v (.type (tyD d)) := by
  cases h with
  | non => exact .base .non
  | bl b => exact .base (.bl b)
  | int i => exact .base (.int i)
  | str x => exact .base (.str x)
  | lst e _ _ => exact .base (.lst e)
  | tup e _ => exact .base (.tup e)
  | dic e _ => exact .base (.dK e)
def isS : PyData → Bool
  | .str _ => true
  | _ => false
def isT : PyData → Bool
  | .tuple _ => true
  | _ => false
def rIsS : List V → Hp → VK → Prop := fun xs H Q => ∃ (x : V) (d : PyData), xs = [x, .ty "str"] ∧ Da H x d ∧ Q (.bl (isS d)) H
def rIsT : List V → Hp → VK → Prop := fun xs H Q => ∃ (x : V) (d : PyData), xs = [x, .ty "tuple"] ∧ Da H x d ∧ Q (.bl (isT d)) H
theorem kit_s (K : PySem.W.Frag) : ∀ d : PyData, PySem.W.kitOne K (.type (tyD d)) (.type "str") = some (isS d)
  | .none => rfl | .bool _ => rfl | .int _ => rfl | .str _ => rfl | .list _ => rfl | .tuple _ => rfl | .dict _ => rfl
theorem kit_t (K : PySem.W.Frag) : ∀ d : PyData, PySem.W.kitOne K (.type (tyD d)) (.type "tuple") = some (isT d)
  | .none => rfl | .bool _ => rfl | .int _ => rfl | .str _ => rfl | .list _ => rfl | .tuple _ => rfl | .dict _ => rfl
theorem call_isS {X : Cx} : CallR X (.builtin "isinstance") rIsS := by
  intro pins s σ H xs us Q I r h
  obtain ⟨x, d, rfl, hd, q⟩ := h
  exact call_isi pins s σ H _ us Q I r ⟨x, .ty "str", _, _, _, rfl, .ty _, ty_da hd, kit_s X.K d, q⟩
theorem call_isT {X : Cx} : CallR X (.builtin "isinstance") rIsT := by
  intro pins s σ H xs us Q I r h
  obtain ⟨x, d, rfl, hd, q⟩ := h
  exact call_isi pins s σ H _ us Q I r ⟨x, .ty "tuple", _, _, _, rfl, .ty _, ty_da hd, kit_t X.K d, q⟩
theorem lc_str {x : Str} {g : TG} {tt : TT} {te : TE} {vs : List Nat} {σ : St} {H1 : Hp} {D : Addr} {Qd : Hp → Prop} (Pv : Nat → Hp → Prop) (h0 : Pv 0 (upd H1 D (.lst [])))
    (hs : ∀ i c H, x.cps[i]? = some c → Pv i H → g (.str ⟨#[c]⟩) (wipe σ vs) H fun σ2 H2 => wipe σ2 vs = wipe σ vs ∧ tt σ2 H2 fun b H3 =>
      if b = true then te σ2 H3 fun y H4 => ∃ acc, H4 D = some (.lst acc) ∧ acc.length < sizeLine ∧ Pv (i + 1) (upd H4 D (.lst (acc ++ [y]))) else Pv (i + 1) H3) (hd : ∀ H, Pv x.cps.size H → Qd H) :
    ∃ W : Nat → Nat → Hp → Prop, (∃ m, W 0 m (upd H1 D (.lst []))) ∧ ∀ i m H, W i m H →
      ((Its x).stop i H ∧ Qd H) ∨ ((Its x).go i H ∧ ∃ Nx : Hp → Prop, (∀ H', Nx H' → ∃ m', m' < m ∧ W (i + 1) m' H') ∧ ∀ y H', (Its x).yld i H y H' → g y (wipe σ vs) H' fun σ2 H2 => wipe σ2 vs = wipe σ vs ∧ tt σ2 H2 fun b H3 =>
        if b = true then te σ2 H3 fun y H4 => ∃ acc, H4 D = some (.lst acc) ∧ acc.length < sizeLine ∧ Nx (upd H4 D (.lst (acc ++ [y]))) else Nx H3) := by
  refine ⟨fun i m H => m + i = x.cps.size ∧ Pv i H, ⟨x.cps.size, rfl, h0⟩, ?_⟩
  rintro i m H ⟨hm, pv⟩
  by_cases lt : i < x.cps.size
  · refine .inr ⟨lt, Pv (i + 1), fun H' p' => ⟨m - 1, by omega, by omega, p'⟩, ?_⟩
    rintro y H' ⟨rfl, c, hc, rfl⟩
    exact hs i c _ hc pv
  · obtain rfl : i = x.cps.size := by omega
    exact .inl ⟨Nat.le_refl _, hd H pv⟩
theorem DaAll.get {H : Hp} : ∀ {vs : List V} {ds : List PyData} {i : Nat} {v : V}, DaAll H vs ds → vs[i]? = some v → ∃ d, ds[i]? = some d ∧ Da H v d
  | _, _, _, _, .nil, e => by simp at e
  | _, _, 0, _, .cons a t, e => by simp at e; subst e; exact ⟨_, rfl, a⟩
  | _, _, i + 1, v, .cons a t, e => by
    obtain ⟨f, h1, h2⟩ := DaAll.get (i := i) (v := v) t (by simpa using e)
    exact ⟨f, by simpa using h1, h2⟩
theorem DaAll.append {H : Hp} : ∀ {vs us : List V} {ds es : List PyData}, DaAll H vs ds → DaAll H us es → DaAll H (vs ++ us) (ds ++ es)
  | _, _, _, _, .nil, s => s
  | _, _, _, _, .cons a t, s => .cons a (DaAll.append t s)
theorem DaAll.take {H : Hp} : ∀ {vs : List V} {ds : List PyData} (n : Nat), DaAll H vs ds → DaAll H (vs.take n) (ds.take n)
  | _, _, 0, _ => by rw [List.take_zero, List.take_zero]; exact .nil
  | _, _, _ + 1, .nil => .nil
  | _, _, n + 1, .cons a t => .cons a (DaAll.take n t)
theorem DaAll.drop {H : Hp} : ∀ {vs : List V} {ds : List PyData} (n : Nat), DaAll H vs ds → DaAll H (vs.drop n) (ds.drop n)
  | _, _, 0, h => h
  | _, _, _ + 1, .nil => .nil
  | _, _, n + 1, .cons _ t => DaAll.drop n t
/-- a name: one to eight small letters -/
def letters : Str := "abcdefghijklmnopqrstuvwxyz"
def allIn (x : Str) : Bool := (x.cps.toList.map fun c => decide (c ∈ letters.cps.toList)).all id
def nameT (x : Str) : Bool := decide (1 ≤ x.length) && decide (x.length ≤ 8) && allIn x
def nameD : PyData → Bool
  | .str x => nameT x
  | _ => false
def outerD : PyData → Bool
  | .tuple (.str w :: rest) => if w = "feature" then (decide (rest.length = 1) && nameD (rest.headD .none)) else if w = "not" then decide (rest.length = 1) else decide (w = "all") || decide (w = "any")
  | _ => false
def partsD : PyData → List PyData
  | .tuple (.str w :: rest) => if w = "feature" then [] else rest
  | _ => []
/-- how many formulas stand in it, 10000 where it is none; n levels are left -/
def countN : Nat → PyData → Nat
  | 0, _ => 10000
  | n + 1, d => if outerD d then 1 + ((partsD d).map (countN n)).sum else 10000
theorem one_count : ∀ (n : Nat) (d : PyData), 1 ≤ countN n d
  | 0, _ => by simp only [countN]; decide
  | n + 1, d => by
    simp only [countN]
    split
    · omega
    · decide
end L2.Fu
/-! ## The text by places -/
namespace L2.Fu
open PySem PySem.Spec PyProof.Rows
def top (i : Nat) : Stmt := PySem.Challenge.pw_featureunion_k01_formulas_of_anything.main.body.getD i (.Pass ⟨0, 0, 0, 0⟩)
abbrev sName : Stmt := top 5
abbrev sOuter : Stmt := top 6
abbrev sParts : Stmt := top 7
abbrev sIsForm : Stmt := top 8
abbrev sHand : Stmt := top 10
abbrev sTake : Stmt := top 11
abbrev sOf : Stmt := top 12
abbrev sNames : Stmt := top 13
abbrev sForm : Stmt := top 14
abbrev sOdd : Stmt := top 15
abbrev sBent : Stmt := top 16
abbrev sLName : Stmt := top 17
abbrev sCount : Stmt := top 18
abbrev sGreat : Stmt := top 19
abbrev sRight : Stmt := top 20
abbrev sLaw : Stmt := top 21
abbrev ofN : Str := "_law_hand_here"
abbrev ofS : Str := "_law_some"
abbrev oddS : Str := "_law_some"
end L2.Fu
namespace L2.Fu
open PySem PySem.Spec PyProof.Rows
theorem cut_one (x : V) (xs : List V) : cutV (x :: xs) (some 1) none = xs := by
  unfold cutV
  have e : HT.sIx (x :: xs).length 0 (some (1 : Int)) = 1 := by
    have := HT.sIx_nat (x :: xs).length 0 1
    rw [List.length_cons] at this ⊢
    exact this.trans (by omega)
  rw [e, HT.sIx_none, List.drop_one, List.tail_cons, List.length_cons, Nat.add_sub_cancel, List.take_length]
theorem cut_not (x : V) (xs : List V) : ¬ (HT.sIx (x :: xs).length 0 (some (1 : Int)) = 0 ∧ HT.sIx (x :: xs).length (x :: xs).length none = (x :: xs).length) := by
  rintro ⟨h, _⟩
  have e : HT.sIx (x :: xs).length 0 (some (1 : Int)) = 1 := by
    have := HT.sIx_nat (x :: xs).length 0 1
    rw [List.length_cons] at this ⊢
    exact this.trans (by omega)
  rw [e] at h
  cases h
theorem at_zero {α : Type} (x : α) (xs : List α) : atI (x :: xs) 0 = some x := atI_nat (j := 0) rfl
theorem at_one {α : Type} (x y : α) (xs : List α) : atI (x :: y :: xs) 1 = some y := atI_nat (j := 1) rfl
/-- a while loop behind a name that was just written -/
theorem while_set {c : TT} {tb u : TS} {D : Ends} {σ : St} {H : Hp} {i : Nat} {x : V} (Pv : St → Hp → Prop) (μ : St → Hp → Nat) (h0 : Pv (σ.set i (some x)) H)
    (hs : ∀ σ H, Pv σ H → c σ H fun b H1 => if b = true then tb { D with nx := fun σ' H' => Pv σ' H' ∧ μ σ' H' < μ σ H, ct := fun σ' H' => Pv σ' H' ∧ μ σ' H' < μ σ H, bk := u D } σ H1 else u D σ H1)
    (mono : ∀ σ H Q Q', (∀ b H1, Q b H1 → Q' b H1) → c σ H Q → c σ H Q') : gName i x σ H (tSeq (tWhile c tb) u D) :=
  while_by (D := { D with nx := u D }) Pv μ h0 hs mono
def lenAt (H : Hp) (a : Addr) : Nat := match H a with
  | some (.lst xs) => xs.length
  | _ => 0
theorem lenAt_of {H : Hp} {a : Addr} {xs : List V} (e : H a = some (.lst xs)) : lenAt H a = xs.length := by
  unfold lenAt
  rw [e]
end L2.Fu
namespace L2.Fu
open PySem PySem.Spec PyProof.Rows
theorem in_texts (x : Str) (S : List Str) : inV (.str x) (S.map V.str) = decide (x ∈ S) := by
  rw [Bool.eq_iff_iff, decide_eq_true_iff]
  unfold inV
  rw [List.any_eq_true]
  constructor
  · rintro ⟨y, hy, e⟩
    obtain ⟨z, hz, rfl⟩ := List.mem_map.mp hy
    have e' : (z == x) = true := e
    exact (eq_of_beq e') ▸ hz
  · intro h
    exact ⟨.str x, List.mem_map_of_mem h, (beq_self_eq_true x : (x == x) = true)⟩
theorem flat_texts : ∀ S : List Str, (S.map V.str).all flatV = true
  | [] => rfl
  | y :: S => by
    show (flatV (.str y) && (S.map V.str).all flatV) = true
    rw [flat_texts S]
    rfl
end L2.Fu
/-! ## The program's looks at anything -/
namespace L2.Fu
open PySem PySem.Spec PyProof.Rows
open PySem.Builtin.Str (reprChar)
/-- a while loop behind two names that were just written, the second with a constant -/
theorem while_two {c : TT} {tb u : TS} {D : Ends} {σ : St} {H : Hp} {i j : Nat} {x y : V} (Pv : St → Hp → Prop) (μ : St → Hp → Nat) (h0 : Pv ((σ.set i (some x)).set j (some y)) H)
    (hs : ∀ σ H, Pv σ H → c σ H fun b H1 => if b = true then tb { D with nx := fun σ' H' => Pv σ' H' ∧ μ σ' H' < μ σ H, ct := fun σ' H' => Pv σ' H' ∧ μ σ' H' < μ σ H, bk := u D } σ H1 else u D σ H1)
    (mono : ∀ σ H Q Q', (∀ b H1, Q b H1 → Q' b H1) → c σ H Q → c σ H Q') : gName i x σ H (tSeq (tAsg (tC y) (gName j)) (tSeq (tWhile c tb) u) D) :=
  while_by (D := { D with nx := u D }) Pv μ h0 hs mono
theorem one_char (q c : Nat) : 1 ≤ (reprChar q c).length := by
  unfold reprChar
  repeat' split
  all_goals simp only [List.length_append, List.length_cons, List.length_nil]
  all_goals omega
theorem fold_ge (q : Nat) : ∀ (l : List Nat) (acc : Array Nat), acc.size + l.length ≤ (l.foldl (fun out c => out ++ (reprChar q c).toArray) acc).size
  | [], acc => Nat.le_refl _
  | c :: r, acc => by
    have ih := fold_ge q r (acc ++ (reprChar q c).toArray)
    have h1 := one_char q c
    simp only [List.foldl_cons, List.length_cons]
    simp only [Array.size_append, List.size_toArray] at ih
    omega
theorem repr_ge (x : Str) : x.length + 2 ≤ (reprText x).length := by
  unfold reprText
  show x.length + 2 ≤ ((x.cps.foldl (fun out c => out ++ (reprChar (reprQuote x) c).toArray) #[reprQuote x]).push (reprQuote x)).size
  rw [Array.size_push, ← Array.foldl_toList]
  have := fold_ge (reprQuote x) x.cps.toList #[reprQuote x]
  have e : x.cps.toList.length = x.length := by simp [Str.length]
  rw [e] at this
  have e1 : (#[reprQuote x] : Array Nat).size = 1 := rfl
  omega
theorem Shows.text {x : Str} {n k : Nat} (h : Shows (.str x) n k) : x.length ≤ n := by
  have f := h.few
  simp only [PyData.shown] at f
  have := repr_ge x
  omega
theorem Shows.items {ds : List PyData} {n k : Nat} (h : Shows (.tuple ds) n (k + 1)) : ShowsAll ds n k := by
  have c := h.can
  simp only [PyData.showable] at c
  have f := h.few
  simp only [PyData.shown] at f
  have g := h.flat
  simp only [PyData.depth] at g
  refine ⟨c, ?_, by omega⟩
  by_cases e : PyData.shownAll ds = []
  · rw [e]
    exact Nat.zero_le _
  · have j := join_length_add (PyData.shownAll ds) e
    have t : (Str.join ", " (PyData.shownAll ds)).length + 2 ≤ (tupleText (PyData.shownAll ds)).length := by
      unfold tupleText
      rw [strLen_append, strLen_append]
      by_cases hk : ((PyData.shownAll ds).length == 1) = true
      · rw [if_pos hk]
        show _ ≤ 1 + _ + 2
        omega
      · rw [if_neg hk]
        show _ ≤ 1 + _ + 1
        omega
    omega
theorem ShowsAll.head {d : PyData} {ds : List PyData} {n k : Nat} (h : ShowsAll (d :: ds) n k) : Shows d n k ∧ ShowsAll ds n k := by
  have c := h.can
  simp only [PyData.showableAll, Bool.and_eq_true] at c
  have f := h.few
  simp only [PyData.shownAll, piled_cons] at f
  have g := h.flat
  simp only [PyData.depthAll] at g
  exact ⟨⟨c.1, by omega, by omega⟩, ⟨c.2, by omega, by omega⟩⟩
theorem ShowsAll.get {n k : Nat} : ∀ {ds : List PyData} {d : PyData}, ShowsAll ds n k → d ∈ ds → Shows d n k
  | [], _, _, h => absurd h List.not_mem_nil
  | e :: ds, d, h, m => by
    rcases List.mem_cons.mp m with rfl | m
    · exact h.head.1
    · exact ShowsAll.get h.head.2 m
/-- what an item of a shown tuple shows -/
theorem Shows.item {ds : List PyData} {d : PyData} {n k : Nat} (h : Shows (.tuple ds) n k) (m : d ∈ ds) : Shows d n k := by
  cases k with
  | zero =>
    have g := h.flat
    simp only [PyData.depth] at g
    omega
  | succ k => exact (h.items.get m).more (Nat.le_refl _) (Nat.le_succ _)
abbrev Fits (d : PyData) : Prop := Shows d 16000000 60
theorem Fits.few {ds : List PyData} (h : Fits (.tuple ds)) : ds.length ≤ 16000000 := by
  have a := (Shows.items (k := 59) h).few
  have key : ∀ es : List PyData, 2 * es.length ≤ piled (PyData.shownAll es) := by
    intro es
    induction es with
    | nil => exact Nat.zero_le _
    | cons e es ih =>
      simp only [PyData.shownAll, piled_cons, List.length_cons]
      omega
  have := key ds
  omega
def spName : Sp := fun vs H Q _ => ∃ (v : V) (d : PyData), vs = [v] ∧ Da H v d ∧ Fits d ∧ ∀ H' : Hp, Same H H' → Q (.bl (nameD d)) H'
def spOuter : Sp := fun vs H Q _ => ∃ (v : V) (d : PyData), vs = [v] ∧ Da H v d ∧ Fits d ∧ ∀ H' : Hp, Same H H' → Q (.bl (outerD d)) H'
def spPartsD : Sp := fun vs H Q _ => ∃ (H0 : Hp) (v : V) (d : PyData), vs = [v] ∧ Same H0 H ∧ Da H0 v d ∧ outerD d = true ∧ ∀ (H' : Hp) (q : Addr) (ws : List V), Same H H' → H' q = some (.tup ws) → DaAll H0 ws (partsD d) → Q (.ref q) H'
def spIsForm : Sp := fun vs H Q _ => ∃ (v : V) (d : PyData), vs = [v] ∧ Da H v d ∧ Fits d ∧ ∀ H' : Hp, Same H H' → Q (.bl (decide (countN 10 d ≤ 400))) H'
/-- what waits: pairs of a thing and its depth -/
inductive PrAll (H0 H : Hp) : List V → List (PyData × Nat) → Prop
  | nil : PrAll H0 H [] []
  | cons {t : Addr} {v : V} {d : PyData} {n : Nat} {vs : List V} {ps : List (PyData × Nat)} : H t = some (.tup [v, .int ((n : Nat) : Int)]) → Da H0 v d → Fits d → n ≤ 11 → PrAll H0 H vs ps → PrAll H0 H (.ref t :: vs) ((d, n) :: ps)
theorem PrAll.mono {H0 H H' : Hp} (s : SameT H H') : ∀ {vs : List V} {ps : List (PyData × Nat)}, PrAll H0 H vs ps → PrAll H0 H' vs ps
  | _, _, .nil => .nil
  | _, _, .cons e a b c t => .cons (s _ _ e) a b c (PrAll.mono s t)
theorem PrAll.length {H0 H : Hp} : ∀ {vs : List V} {ps : List (PyData × Nat)}, PrAll H0 H vs ps → vs.length = ps.length
  | _, _, .nil => rfl
  | _, _, .cons _ _ _ _ t => by rw [List.length_cons, List.length_cons, PrAll.length t]
theorem PrAll.append {H0 H : Hp} : ∀ {vs us : List V} {ps qs : List (PyData × Nat)}, PrAll H0 H vs ps → PrAll H0 H us qs → PrAll H0 H (vs ++ us) (ps ++ qs)
  | _, _, _, _, .nil, s => s
  | _, _, _, _, .cons e a b c t, s => .cons e a b c (PrAll.append t s)
theorem PrAll.last {H0 H : Hp} : ∀ {vs : List V} {ps : List (PyData × Nat)}, PrAll H0 H vs ps → vs ≠ [] → ∃ (t : Addr) (v : V) (d : PyData) (n : Nat) (qs : List (PyData × Nat)), vs[vs.length - 1]? = some (.ref t) ∧ ps = qs ++ [(d, n)] ∧ H t = some (.tup [v, .int ((n : Nat) : Int)]) ∧ Da H0 v d ∧ Fits d ∧ n ≤ 11 ∧ PrAll H0 H vs.dropLast qs
  | _, _, .nil, z => absurd rfl z
  | _, _, .cons (t := t) (v := v) (d := d) (n := n) e a b c .nil, _ => ⟨t, v, d, n, [], rfl, rfl, e, a, b, c, .nil⟩
  | _, _, .cons (d := d0) (n := n0) e a b c (.cons e2 a2 b2 c2 t2), _ => by
    obtain ⟨t, v, d, n, qs, h1, h2, h3, h4, h5, h6, h7⟩ := PrAll.last (.cons e2 a2 b2 c2 t2) (by simp)
    refine ⟨t, v, d, n, (d0, n0) :: qs, ?_, by rw [h2]; rfl, h3, h4, h5, h6, .cons e a b c h7⟩
    simpa using h1
def tot : List (PyData × Nat) → Nat
  | [] => 0
  | p :: ps => countN (11 - p.2) p.1 + tot ps
theorem tot_append : ∀ ps qs : List (PyData × Nat), tot (ps ++ qs) = tot ps + tot qs
  | [], qs => by simp only [tot, List.nil_append, Nat.zero_add]
  | p :: ps, qs => by simp only [tot, List.cons_append, tot_append ps qs, Nat.add_assoc]
theorem tot_ge : ∀ ps : List (PyData × Nat), ps.length ≤ tot ps
  | [] => Nat.le_refl _
  | p :: ps => by
    simp only [tot, List.length_cons]
    have := tot_ge ps
    have := one_count (11 - p.2) p.1
    omega
theorem tot_parts (n : Nat) : ∀ ds : List PyData, tot (ds.map fun d => (d, n)) = (ds.map (countN (11 - n))).sum
  | [] => rfl
  | d :: ds => by simp only [List.map_cons, tot, List.sum_cons, tot_parts n ds]
def intAt (σ : St) (i : Nat) : Nat := match σ[i]? with
  | some (some (.int z)) => z.toNat
  | _ => 0
theorem parts_item {d e : PyData} (h : outerD d = true) (m : e ∈ partsD d) : ∃ ds, d = .tuple ds ∧ e ∈ ds := by
  cases d with
  | tuple ds =>
    cases ds with
    | nil => cases m
    | cons x rest =>
      cases x with
      | str w =>
        refine ⟨_, rfl, List.mem_cons_of_mem _ ?_⟩
        simp only [partsD] at m
        by_cases z : w = "feature"
        · rw [if_pos z] at m
          cases m
        · rw [if_neg z] at m
          exact m
      | _ => cases m
  | _ => cases h
theorem outer_shape {d : PyData} (h : outerD d = true) : ∃ (w : Str) (rest : List PyData), d = .tuple (.str w :: rest) := by
  cases d with
  | tuple ds =>
    cases ds with
    | nil => cases h
    | cons x rest =>
      cases x with
      | str w => exact ⟨w, rest, rfl⟩
      | _ => cases h
  | _ => cases h
theorem size_room {n : Nat} (h : n ≤ 16000000) : n ≤ sizeLine := Nat.le_trans h (by rw [sizeLine_eq]; decide)
theorem dec_len (x : Str) : x.length = x.cps.size := rfl
section
variable {P : Program} {w : World} {K : PySem.W.Frag} {mg : Str → Option Value} {base : Heap}
theorem scName : FnScope ["thing", "letter"] ["thing"] (defScope sName) := ⟨rfl, rfl, rfl, by decide +kernel, rfl, by decide +kernel, by decide +kernel⟩
theorem ok_name {f : Addr} {fd : FuncData} {tL : Tok} {tN : Tok} (F : Fun K "is_name" "is_name" sName f fd) (gL : mg "LETTERS" = some (.str letters tL)) (gN : mg "LONGEST_NAME" = some (.int 8 tN))
    (zIs : mg "isinstance" = none) (zStr : mg "str" = none) (zLen : mg "len" = none) (zAll : mg "all" = none) : FnOk P w K mg base CX0 1 f fd ["thing"] spName := by
  refine F.ok scName (fun vs H Q E h => ?_) (fun cdv A outer s H vs Q E hr h => ?_)
  · obtain ⟨v, d, rfl, _⟩ := h
    rfl
  · obtain ⟨v, d, rfl, dv, ft, q⟩ := h
    refine ⟨_, pss_cons (ps_if (PW.pt (pw_or (pt_not (pt_val (pe_callB call_isS (by rfl) zIs boot_isinstance (pa_cons (pv 0) (pa_cons (pe_bltn (v := .ty "str") rfl zStr (by decide +kernel) rfl) pa_nil)))))
        (pw_or1 (pt_not (pt_chain op_le op_le pe_int (pe_callB call_len_str (by rfl) zLen PySem.boot_len (pa_cons (pv 0) pa_nil)) (pe_glob (v := .int 8) rfl gN ⟨_, rfl⟩)))))) (pss_one (ps_ret pe_bl)) pss_nil)
      (pss_one (ps_ret (pe_callB (cr_all rfl) (by rfl) zAll PyProof.Rows.boot_all (pa_cons
        (pe_lc (own := [("letter", 1)]) (g := gName 1) (tt := tYes) (te := tOp (fun x y H Q => ∃ (c : Nat) (z : Str), x = .str ⟨#[c]⟩ ∧ y = .str z ∧ Q (.bl (decide (c ∈ z.cps.toList))) H) (tVar 1) (tC (.str letters))) rfl scName.nd (pi_str (pv 0)) (blkOk_by (N := ["thing", "letter"]) (sc := defScope sName) (by decide +kernel)) (fun _ _ _ _ _ => pg_name (i := 1) scName.nd rfl (Or.inl rfl)) (fun _ _ _ _ _ => pts_nil)
          (fun _ _ _ _ _ => pe_cmpR op_in_sign (pv 1) (pe_glob (v := .str letters) rfl gL ⟨_, rfl⟩) (by with_unfolding_all rfl))) pa_nil)))), ?_⟩
    refine ⟨_, rfl, v, d, rfl, dv, _, rfl, ?_⟩
    have no : isS d = false → nameD d = false := by cases d <;> intro h <;> first | rfl | cases h
    cases hs : isS d with
    | false =>
      have qq := q H (Same.refl _)
      rw [no hs] at qq
      exact iteT qq
    | true =>
      obtain ⟨x, rfl⟩ : ∃ x, d = .str x := by cases d <;> first | exact ⟨_, rfl⟩ | cases hs
      cases dv
      have lx := ft.text
      refine iteF ⟨_, rfl, x, rfl, size_room lx, _, _, rfl, rfl, _, rfl, ?_⟩
      by_cases h1 : 1 ≤ x.length
      · rw [decide_eq_true (show (1 : Int) ≤ (x.length : Int) by omega)]
        refine iteT ⟨_, _, rfl, rfl, _, rfl, ?_⟩
        by_cases h8 : x.length ≤ 8
        · rw [decide_eq_true (show (x.length : Int) ≤ 8 by omega)]
          have e : nameD (.str x) = allIn x := by
            show (decide (1 ≤ x.length) && decide (x.length ≤ 8) && allIn x) = _
            rw [decide_eq_true h1, decide_eq_true h8]
            rfl
          rw [e] at q
          refine iteF ⟨_, rfl, x, rfl, fun D nD => ?_⟩
          refine lc_str (fun i Hc => Same H Hc ∧ Hc D = some (.lst (((x.cps.toList.take i).map fun c => decide (c ∈ letters.cps.toList)).map V.bl))) ⟨same_new nD, upd_same⟩ ?_ ?_
          · rintro i c Hc hc ⟨sc, ec⟩
            have hc' : x.cps.toList[i]? = some c := by rw [Array.getElem?_toList]; exact hc
            have tk : x.cps.toList.take (i + 1) = x.cps.toList.take i ++ [c] := by rw [List.take_add_one, hc']; rfl
            refine ⟨rfl, _, rfl, c, letters, rfl, rfl, _, ec, ?_, fun b o kb => ?_, ?_⟩
            · rw [List.length_map, List.length_map, List.length_take]
              exact Nat.lt_of_le_of_lt (show min i x.cps.toList.length ≤ 8 by rw [Array.length_toList]; have := dec_len x; omega) (by decide)
            · rw [upd_ne (ne_of_none kb nD)]
              exact sc _ _ kb
            · rw [upd_same, tk, List.map_append, List.map_append]
              rfl
          · rintro Hc ⟨sc, ec⟩
            rw [← Array.length_toList, List.take_length] at ec
            exact ⟨D, _, rfl, SqL.of ec, q Hc sc⟩
        · rw [decide_eq_false (show ¬ (x.length : Int) ≤ 8 by omega)]
          have e : nameD (.str x) = false := by
            show (decide (1 ≤ x.length) && decide (x.length ≤ 8) && allIn x) = _
            rw [decide_eq_false h8, Bool.and_false, Bool.false_and]
          rw [e] at q
          exact iteT (q H (Same.refl _))
      · rw [decide_eq_false (show ¬ (1 : Int) ≤ (x.length : Int) by omega)]
        have e : nameD (.str x) = false := by
          show (decide (1 ≤ x.length) && decide (x.length ≤ 8) && allIn x) = _
          rw [decide_eq_false h1, Bool.false_and, Bool.false_and]
        rw [e] at q
        exact iteF ⟨_, rfl, iteT (q H (Same.refl _))⟩
theorem scOuter : FnScope ["thing", "word"] ["thing"] (defScope sOuter) := ⟨rfl, rfl, rfl, by decide +kernel, rfl, by decide +kernel, by decide +kernel⟩
theorem ok_outer {f fN : Addr} {fd fdN : FuncData} (F : Fun K "has_outer_form" "has_outer_form" sOuter f fd) (GN : FnOk P w K mg base CX0 1 fN fdN ["thing"] spName) (mN : mg "is_name" = some (.ref fN)) (kN : PySem.W.keepIn K (.ref fN) = true) (bN : Binds K fdN ["thing"] [])
    (zIs : mg "isinstance" = none) (zStr : mg "str" = none) (zLen : mg "len" = none) (zTup : mg "tuple" = none) : FnOk P w K mg base CX0 2 f fd ["thing"] spOuter := by
  refine F.ok scOuter (fun vs H Q E h => ?_) (fun cdv A outer s H vs Q E hr h => ?_)
  · obtain ⟨v, d, rfl, _⟩ := h
    rfl
  · obtain ⟨v, d, rfl, dv, ft, q⟩ := h
    refine ⟨_, pss_cons (ps_if (PW.pt (pw_or (pt_not (pt_val (pe_callB call_isT (by rfl) zIs boot_isinstance (pa_cons (pv 0) (pa_cons (pe_bltn (v := .ty "tuple") rfl zTup (by decide +kernel) rfl) pa_nil)))))
        (pw_or (pt_cmpR op_eq (pe_callB call_len_seq (by rfl) zLen PySem.boot_len (pa_cons (pv 0) pa_nil)) pe_int (nomark _)) (pw_or1 (pt_not (pt_val (pe_callB call_isS (by rfl) zIs boot_isinstance (pa_cons (pe_ix ix_tup (pv 0) pe_int (fun _ _ => rfl)) (pa_cons (pe_bltn (v := .ty "str") rfl zStr (by decide +kernel) rfl) pa_nil))))))))) (pss_one (ps_ret pe_bl)) pss_nil)
      (pss_cons (ps_set (i := 1) scOuter.nd rfl (.inl rfl) (pe_ix ix_tup (pv 0) pe_int (fun _ _ => rfl)))
      (pss_cons (ps_if (pt_cmpR op_eq (pv 1) pe_str (nomark _)) (pss_one (ps_ret (pe_and (pe_cmpR op_eq (pe_callB call_len_seq (by rfl) zLen PySem.boot_len (pa_cons (pv 0) pa_nil)) pe_int (nomark _)) (pe_one (pe_call GN hr rfl mN kN bN .nil pass0 (pa_cons (pe_ix ix_tup (pv 0) pe_int (fun _ _ => rfl)) pa_nil)))))) pss_nil)
      (pss_cons (ps_if (pt_cmpR op_eq (pv 1) pe_str (nomark _)) (pss_one (ps_ret (pe_cmpR op_eq (pe_callB call_len_seq (by rfl) zLen PySem.boot_len (pa_cons (pv 0) pa_nil)) pe_int (nomark _)))) pss_nil)
      (pss_one (ps_ret (pe_cmpR op_in_seq (pv 1) (pe_tup (pa_cons pe_str (pa_cons pe_str pa_nil))) (by with_unfolding_all rfl))))))), ?_⟩
    refine ⟨_, rfl, v, d, rfl, dv, _, rfl, ?_⟩
    cases ht : isT d with
    | false =>
      have no : outerD d = false := by cases d <;> first | rfl | cases ht
      rw [no] at q
      exact iteT (q H (Same.refl _))
    | true =>
      obtain ⟨ds, rfl⟩ : ∃ ds, d = .tuple ds := by cases d <;> first | exact ⟨_, rfl⟩ | cases ht
      obtain ⟨a, us, rfl, e, all⟩ : ∃ a us, v = .ref a ∧ H a = some (.tup us) ∧ DaAll H us ds := by cases dv with | tup e all => exact ⟨_, _, rfl, e, all⟩
      refine iteF ⟨_, rfl, a, us, rfl, .inr (SqT.of e), rfl, _, rfl, ?_⟩
      cases all with
      | nil =>
        rw [decide_eq_true (show V.int ((([] : List V).length : Nat) : Int) = V.int 0 from rfl)]
        exact iteT (iteT (q H (Same.refl _)))
      | @cons u us x ds du all =>
        rw [decide_eq_false (fun z => by have := V.int.inj z; rw [List.length_cons] at this; omega)]
        refine iteF ⟨_, rfl, a, _, _, _, rfl, rfl, SqT.of e, at_zero _ _, u, x, rfl, du, _, rfl, ?_⟩
        have lu := all.length
        cases hs : isS x with
        | false =>
          have no : outerD (.tuple (x :: ds)) = false := by cases x <;> first | rfl | cases hs
          rw [no] at q
          exact iteT (q H (Same.refl _))
        | true =>
          obtain ⟨wd, rfl⟩ : ∃ y, x = .str y := by cases x <;> first | exact ⟨_, rfl⟩ | cases hs
          cases du
          refine iteF ⟨_, rfl, a, _, _, _, rfl, rfl, SqT.of e, at_zero _ _, _, rfl, rfl, _, rfl, ?_⟩
          have oe : outerD (.tuple (.str wd :: ds)) = if wd = "feature" then (decide (ds.length = 1) && nameD (ds.headD .none)) else if wd = "not" then decide (ds.length = 1) else decide (wd = "all") || decide (wd = "any") := rfl
          have l2 : (decide (V.int (((V.str wd :: us).length : Nat) : Int) = V.int 2)) = decide (ds.length = 1) := by
            rw [List.length_cons, lu]
            by_cases z : ds.length = 1
            · rw [decide_eq_true z, decide_eq_true (by rw [z]; rfl)]
            · rw [decide_eq_false z, decide_eq_false (fun t => by have := V.int.inj t; omega)]
          by_cases hf : wd = "feature"
          · subst hf
            rw [if_pos rfl] at oe
            rw [oe] at q
            rw [decide_eq_true rfl]
            refine iteT ⟨_, rfl, a, _, rfl, .inr (SqT.of e), rfl, _, rfl, ?_⟩
            rw [l2]
            by_cases z : ds.length = 1
            · rw [decide_eq_true z] at q ⊢
              obtain ⟨y, rfl⟩ : ∃ y, ds = [y] := by
                match ds, z with
                | [y], _ => exact ⟨y, rfl⟩
              cases all with
              | @cons u2 us2 _ _ dy t2 =>
                have fy : Fits y := ft.item (List.mem_cons_of_mem _ List.mem_cons_self)
                exact iteT ⟨_, rfl, a, _, _, _, rfl, rfl, SqT.of e, at_one _ _ _, u2, y, rfl, dy, fy, fun H' s' => q H' s'⟩
            · rw [decide_eq_false z] at q ⊢
              exact iteF (q H (Same.refl _))
          · rw [if_neg hf] at oe
            rw [decide_eq_false (fun z => hf (V.str.inj z))]
            refine iteF ⟨_, rfl, rfl, _, rfl, ?_⟩
            by_cases hn : wd = "not"
            · subst hn
              rw [if_pos rfl] at oe
              rw [oe] at q
              rw [decide_eq_true rfl]
              refine iteT ⟨_, rfl, a, _, rfl, .inr (SqT.of e), rfl, ?_⟩
              rw [l2]
              exact q H (Same.refl _)
            · rw [if_neg hn] at oe
              rw [oe] at q
              rw [decide_eq_false (fun z => hn (V.str.inj z))]
              refine iteF ⟨_, rfl, (by show 2 ≤ sizeLine; decide), fun t nt => ⟨t, [.str "all", .str "any"], rfl, .inr (SqT.of upd_same), rfl, rfl, ?_⟩⟩
              have e2 : inV (.str wd) [.str "all", .str "any"] = (decide (wd = "all") || decide (wd = "any")) := by
                have := in_texts wd ["all", "any"]
                rw [show ([V.str "all", V.str "any"] : List V) = (["all", "any"] : List Str).map V.str from rfl, this]
                by_cases z1 : wd = "all"
                · subst z1; decide
                · by_cases z2 : wd = "any"
                  · subst z2; decide
                  · rw [decide_eq_false z1, decide_eq_false z2, decide_eq_false]
                    · rfl
                    · simp only [List.mem_cons, List.not_mem_nil, or_false]
                      exact fun z => z.elim z1 z2
              show Q (.bl (inV (.str wd) [.str "all", .str "any"])) _
              rw [e2]
              exact q _ (same_new nt)
theorem scPartsD : FnScope ["formula"] ["formula"] (defScope sParts) := ⟨rfl, rfl, rfl, by decide +kernel, rfl, by decide +kernel, by decide +kernel⟩
theorem ok_partsD {f : Addr} {fd : FuncData} (F : Fun K "parts_of" "parts_of" sParts f fd) : FnOk P w K mg base CX0 1 f fd ["formula"] spPartsD := by
  refine F.ok scPartsD (fun vs H Q E h => ?_) (fun cdv A outer s H vs Q E hr h => ?_)
  · obtain ⟨H0, v, d, rfl, _⟩ := h
    rfl
  · obtain ⟨H0, v, d, rfl, s0, dv, od, q⟩ := h
    refine ⟨_, pss_cons (ps_if (pt_cmpR op_eq (pe_ix ix_tup (pv 0) pe_int (fun _ _ => rfl)) pe_str (nomark _)) (pss_one (ps_ret (pe_tup pa_nil))) pss_nil) (pss_one (ps_ret (pe_slice sl_tup (pv 0) (po_some pe_int) po_none))), ?_⟩
    obtain ⟨wd, rest, rfl⟩ := outer_shape od
    cases dv with
    | @tup a us _ e all =>
      cases all with
      | @cons u us _ _ du all =>
        cases du
        have e' := s0 _ _ e
        refine ⟨_, rfl, a, _, _, _, rfl, rfl, SqT.of e', at_zero _ _, rfl, _, rfl, ?_⟩
        by_cases z : wd = "feature"
        · subst z
          rw [decide_eq_true rfl]
          have pe : partsD (.tuple (.str "feature" :: rest)) = [] := by simp only [partsD, if_pos]
          rw [pe] at q
          exact iteT ⟨Nat.zero_le _, fun p np => q _ p [] (same_new np) upd_same .nil⟩
        · rw [decide_eq_false (fun t => z (V.str.inj t))]
          have pe : partsD (.tuple (.str wd :: rest)) = rest := by simp only [partsD, if_neg z]
          rw [pe] at q
          refine iteF ⟨_, rfl, _, rfl, a, _, rfl, SqT.of e', cut_not _ _, fun p np => ?_⟩
          rw [cut_one]
          exact q _ p us (same_new np) upd_same all
abbrev nIsForm : List Str := ["thing", "waiting", "found", "part", "depth", "inner", "formula"]
theorem scIsForm : FnScope nIsForm ["thing"] (defScope sIsForm) := ⟨rfl, rfl, rfl, by decide +kernel, rfl, by decide +kernel, by decide +kernel⟩
theorem ok_isForm {f fO fP : Addr} {fd fdO fdP : FuncData} {tD tM : Tok} (F : Fun K "is_formula" "is_formula" sIsForm f fd)
    (GO : FnOk P w K mg base CX0 2 fO fdO ["thing"] spOuter) (mO : mg "has_outer_form" = some (.ref fO)) (kO : PySem.W.keepIn K (.ref fO) = true) (bO : Binds K fdO ["thing"] [])
    (GP : FnOk P w K mg base CX0 1 fP fdP ["formula"] spPartsD) (mP : mg "parts_of" = some (.ref fP)) (kP : PySem.W.keepIn K (.ref fP) = true) (bP : Binds K fdP ["formula"] [])
    (gD : mg "DEEPEST_FORMULA" = some (.int 10 tD)) (gM : mg "MOST_FORMULAS" = some (.int 400 tM)) (zLen : mg "len" = none) : FnOk P w K mg base CX0 3 f fd ["thing"] spIsForm := by
  refine F.ok scIsForm (fun vs H Q E h => ?_) (fun cdv A outer s H vs Q E hr h => ?_)
  · obtain ⟨v, d, rfl, _⟩ := h
    rfl
  · obtain ⟨v, d, rfl, dv, ft, q⟩ := h
    have hr1 := hr.mono (show 1 ≤ 2 by decide)
    refine ⟨_, pss_cons (ps_set (i := 1) scIsForm.nd rfl (.inl rfl) (pe_lst (pa_cons (pe_tup (pa_cons (pv 0) (pa_cons pe_int pa_nil))) pa_nil)))
      (pss_cons (ps_set (i := 2) scIsForm.nd rfl (.inl rfl) pe_int)
      (pss_cons (ps_while PassesOwn.never (pt_truth (pv 1) (fun _ => rfl))
        (pss_cons (ps_asg (pe_bm0 PySem.F.plainAttrs_list PySem.F.slot_list_pop PySem.F.type_list_pop mt_pop (pv 1)) (pg_tup rfl (pgs_cons (pg_name (i := 3) scIsForm.nd rfl (.inl rfl)) (pgs_cons (pg_name (i := 4) scIsForm.nd rfl (.inr rfl)) pgs_nil))))
        (pss_cons (ps_if (PW.pt (pw_or (pt_cmpR op_gt (pv 4) (pe_glob (v := .int 10) rfl gD ⟨_, rfl⟩) (nomark _)) (pw_or1 (pt_not (pt_val (pe_call GO hr rfl mO kO bO .nil pass0 (pa_cons (pv 3) pa_nil))))))) (pss_one (ps_ret pe_bl)) pss_nil)
        (pss_cons (ps_set (i := 5) scIsForm.nd rfl (.inl rfl) (pe_call GP hr1 rfl mP kP bP .nil pass0 (pa_cons (pv 3) pa_nil)))
        (pss_cons (ps_aug (i := 2) scIsForm.nd rfl (.inl rfl) (pe_callB call_len_seq (by rfl) zLen PySem.boot_len (pa_cons (pv 5) pa_nil)) ip_add)
        (pss_cons (ps_if (pt_cmpR op_gt (pv 2) (pe_glob (v := .int 400) rfl gM ⟨_, rfl⟩) (nomark _)) (pss_one (ps_ret pe_bl)) pss_nil)
        (pss_one (ps_expr (pe_bm PySem.F.plainAttrs_list PySem.F.slot_list_extend PySem.F.type_list_extend mt_extend (pv 1) (pa_cons
          (pe_lc (own := [("formula", 6)]) (g := gName 6) (tt := tYes) (te := tTup (tCons (tVar 6) (tCons (tOp (rI0 fun i j => .int (i + j)) (tVar 4) (tC (.int 1))) tNil))) rfl scIsForm.nd (pi_tup (pv 5)) (blkOk_by (N := nIsForm) (sc := defScope sIsForm) (by decide +kernel)) (fun _ _ _ _ _ => pg_name (i := 6) scIsForm.nd rfl (Or.inl rfl)) (fun _ _ _ _ _ => pts_nil)
            (fun _ _ _ _ _ => pe_tup (pa_cons (pv 6) (pa_cons (pe_op op_add (pv 4) pe_int) pa_nil)))) pa_nil))))))))))
      (pss_one (ps_ret pe_bl)))), ?_⟩
    obtain ⟨T, hT⟩ : ∃ T, T = countN 10 d := ⟨_, rfl⟩
    rw [← hT] at q
    have qF : ∀ H', Same H H' → 400 < T → Q (.bl false) H' := fun H' s' g => by
      have := q H' s'
      rw [decide_eq_false (by omega)] at this
      exact this
    refine ⟨_, rfl, (by show 2 ≤ sizeLine; decide), fun t0 n0 => ⟨(by show 1 ≤ sizeLine; decide), fun l nl => ?_⟩⟩
    have sA := (same_new (o := .tup [v, .int 1]) n0).trans (same_new (o := .lst [.ref t0]) nl)
    have zl : H l = none := (same_new (o := .tup [v, .int 1]) n0).free nl
    have aA : PrAll H (upd (upd H t0 (.tup [v, .int 1])) l (.lst [.ref t0])) [.ref t0] [(d, 1)] := .cons (n := 1) (same_new nl _ _ upd_same) dv ft (by decide) .nil
    have eA : upd (upd H t0 (.tup [v, .int 1])) l (.lst [.ref t0]) l = some (.lst [.ref t0]) := upd_same
    generalize upd (upd H t0 (.tup [v, .int 1])) l (.lst [.ref t0]) = H1 at sA aA eA
    dsimp only []
    refine while_two (fun σ Hc => ∃ (W : List (PyData × Nat)) (ws : List V) (fnd : Nat) (o3 o4 o5 o6 : Option V), σ = [some v, some (.ref l), some (.int ((fnd : Nat) : Int)), o3, o4, o5, o6] ∧ Same H Hc ∧ Hc l = some (.lst ws) ∧ PrAll H Hc ws W ∧ tot W + fnd = T + W.length ∧ fnd ≤ 400 ∧ W.length ≤ fnd)
      (fun σ Hc => 402 + lenAt Hc l - intAt σ 2) ?_ ?_ ?_
    · exact ⟨[(d, 1)], _, 1, none, none, none, none, rfl, sA, eA, aA, by rw [hT]; rfl, by decide, Nat.le_refl _⟩
    · rintro σ Hc ⟨W, ws, fnd, o3, o4, o5, o6, rfl, sc, e, aW, tw, f4, lW⟩
      refine ⟨_, rfl, !ws.isEmpty, .inl ⟨ws, SqL.of e, rfl⟩, ite2 (fun hc => ?_) (fun hc => ?_)⟩
      · have ne : ws ≠ [] := fun z => by rw [z] at hc; cases hc
        obtain ⟨t, v1, d1, n1, qs, hy, rfl, et, dv1, ft1, n11, aQ⟩ := aW.last ne
        have lws := aW.length
        rw [List.length_append, List.length_singleton] at lws tw lW
        rw [tot_append] at tw
        simp only [tot, Nat.add_zero] at tw
        have gQ := tot_ge qs
        refine ⟨_, rfl, .inl ⟨rfl, _, SqL.of e⟩, l, ws, .ref t, rfl, rfl, e, hy, ?_⟩
        have T2 : SameT Hc (upd Hc l (.lst ws.dropLast)) := sameT_lst e
        have s2 : Same H (upd Hc l (.lst ws.dropLast)) := fun b o kb => by
          rw [upd_ne (ne_of_none kb zl)]
          exact sc _ _ kb
        have e2 : upd Hc l (.lst ws.dropLast) l = some (.lst ws.dropLast) := upd_same
        have lenC := lenAt_of e
        generalize upd Hc l (.lst ws.dropLast) = H2 at T2 s2 e2
        have aQ2 := aQ.mono T2
        refine ⟨t, _, rfl, SqT.of (T2 _ _ et), rfl, _, _, rfl, _, _, rfl, rfl, ?_⟩
        refine ⟨_, rfl, _, _, rfl, rfl, _, rfl, ite2 (fun hd => ?_) (fun hd => ?_)⟩
        · have h10 : (10 : Int) < (n1 : Int) := of_decide_eq_true hd
          have z : 11 - n1 = 0 := by omega
          rw [z] at tw
          simp only [countN] at tw
          exact iteT (qF _ s2 (by omega))
        · have h10 : ¬ (10 : Int) < (n1 : Int) := of_decide_eq_false (Bool.eq_false_iff.mpr hd)
          obtain ⟨m, em⟩ : ∃ m, 11 - n1 = m + 1 := ⟨10 - n1, by omega⟩
          have em2 : 11 - (n1 + 1) = m := by omega
          rw [em] at tw
          simp only [countN] at tw
          refine ⟨_, rfl, v1, d1, rfl, dv1.mono s2, ft1, fun H3 s3 => ⟨_, rfl, ?_⟩⟩
          cases ho : outerD d1 with
          | false =>
            rw [ho, if_neg (by decide)] at tw
            exact iteT (qF _ (s2.trans s3) (by omega))
          | true =>
            rw [ho, if_pos rfl] at tw
            refine iteF ⟨_, rfl, H, v1, d1, rfl, s2.trans s3, dv1, ho, fun H4 p4 us s4 e4 a4 => ?_⟩
            have lu := a4.length
            refine ⟨_, rfl, _, rfl, p4, us, rfl, .inr (SqT.of e4), _, _, rfl, rfl, ?_⟩
            have tp := tot_parts (n1 + 1) (partsD d1)
            rw [em2] at tp
            have gp := tot_ge ((partsD d1).map fun d => (d, n1 + 1))
            rw [List.length_map] at gp
            refine ⟨_, rfl, _, _, rfl, rfl, _, rfl, ite2 (fun hm => ?_) (fun hm => ?_)⟩
            · have h400 : (400 : Int) < (fnd : Int) + (us.length : Int) := of_decide_eq_true hm
              exact qF _ (s2.trans (s3.trans s4)) (by omega)
            · have h400 : ¬ (400 : Int) < (fnd : Int) + (us.length : Int) := of_decide_eq_false (Bool.eq_false_iff.mpr hm)
              have S4 := s3.trans s4
              have el4 := S4 _ _ e2
              refine ⟨_, rfl, .inl ⟨rfl, _, SqL.of el4⟩, _, rfl, p4, rfl, ⟨us, SqT.of e4⟩, fun D nD => ?_⟩
              have nlD : l ≠ D := ne_of_none el4 nD
              refine lc_tup (xs := us) (fun i Hy => Same H4 Hy ∧ ∃ rs, Hy D = some (.lst rs) ∧ rs.length = i ∧ PrAll H Hy rs (((partsD d1).take i).map fun d => (d, n1 + 1))) ⟨same_new nD, [], upd_same, rfl, .nil⟩ (fun i Hy _ h => SqT.of (h.1 _ _ e4)) ?_ ?_
              · rintro i x Hy hx ⟨sy, rs, eD, lD, aD⟩
                obtain ⟨dx, hdx, dax⟩ := a4.get hx
                have li : i < us.length := (List.getElem?_eq_some_iff.mp hx).1
                have tk : (partsD d1).take (i + 1) = (partsD d1).take i ++ [dx] := by rw [List.take_add_one, hdx]; rfl
                obtain ⟨dds, rfl, mdd⟩ := parts_item ho (List.mem_of_getElem? hdx)
                refine ⟨rfl, _, rfl, _, rfl, _, _, rfl, rfl, (by show 2 ≤ sizeLine; decide), fun t5 n5 => ?_⟩
                have s5 := same_new (o := .tup [x, .int (((n1 : Nat) : Int) + 1)]) n5
                have e5 : upd Hy t5 (.tup [x, .int (((n1 : Nat) : Int) + 1)]) t5 = some (.tup [x, .int (((n1 : Nat) : Int) + 1)]) := upd_same
                have eD5 := s5 _ _ eD
                refine ⟨rs, eD5, ?_, fun b o kb => ?_, rs ++ [.ref t5], upd_same, by rw [List.length_append, lD]; rfl, ?_⟩
                · rw [lD]
                  exact Nat.lt_of_lt_of_le (show i < 400 by omega) (by decide)
                · rw [upd_ne (ne_of_none kb nD)]
                  exact s5 _ _ (sy _ _ kb)
                · rw [tk, List.map_append]
                  refine (aD.mono (s5.toT.trans (sameT_lst eD5))).append (.cons (n := n1 + 1) (sameT_lst eD5 _ _ ?_) dax (ft1.item mdd) (by omega) .nil)
                  rw [Int.natCast_add]
                  exact e5
              · rintro Hy ⟨sy, rs, eD, lD, aD⟩
                rw [lu, List.take_length] at aD
                have el5 := sy _ _ el4
                refine ⟨l, D, _, rs, rfl, rfl, el5, eD, ?_, ?_⟩
                · rw [List.length_dropLast]
                  exact Nat.le_trans (show ws.length - 1 + rs.length ≤ 1000 by omega) (by decide)
                · have T6 : SameT Hy (upd Hy l (.lst (ws.dropLast ++ rs))) := sameT_lst el5
                  refine ⟨⟨qs ++ (partsD d1).map (fun d => (d, n1 + 1)), ws.dropLast ++ rs, fnd + us.length, some v1, some (.int ((n1 : Nat) : Int)), some (.ref p4), o6, ?_, fun b o kb => ?_, upd_same, (aQ2.mono ((S4.trans sy).toT.trans T6)).append (aD.mono T6), ?_, by omega, ?_⟩, ?_⟩
                  · rw [Int.natCast_add]
                    rfl
                  · rw [upd_ne (ne_of_none kb zl)]
                    exact sy _ _ (S4 _ _ (s2 _ _ kb))
                  · rw [tot_append, tp, List.length_append, List.length_map]
                    omega
                  · rw [List.length_append, List.length_map]
                    omega
                  · show 402 + lenAt (upd Hy l (.lst (ws.dropLast ++ rs))) l - ((fnd : Int) + (us.length : Int)).toNat < 402 + lenAt Hc l - ((fnd : Nat) : Int).toNat
                    rw [lenAt_of upd_same, lenC, List.length_append, List.length_dropLast]
                    omega
      · have emp : ws = [] := by
          cases ws with
          | nil => rfl
          | cons a b => exact absurd rfl hc
        subst emp
        cases aW
        simp only [tot, List.length_nil] at tw
        have := q Hc sc
        rw [decide_eq_true (by omega)] at this
        exact this
    · rintro σ Hc Q1 Q2 imp ⟨x, hx, k, ht, hq⟩
      exact ⟨x, hx, k, ht, imp _ _ hq⟩
end
end L2.Fu
/-! ## The law's small defs -/
namespace L2.Fu
open PySem PySem.Spec PyProof.Rows
section
variable {P : Program} {w : World} {K : PySem.W.Frag} {mg : Str → Option Value} {base : Heap}
theorem scHand : FnScope ["_law_script", "_law_k", "_law_cell", "_law_great_here"] ["_law_script", "_law_k"] (defScope sHand) := ⟨rfl, rfl, rfl, by decide +kernel, rfl, by decide +kernel, by decide +kernel⟩
theorem ok_hand {f : Addr} {fd : FuncData} (F : Fun K "_law_hand" "_law_hand" sHand f fd) (zLen : mg "len" = none) (zAbs : mg "abs" = none) (zInt : mg "int" = none) : FnOk P w K mg base CX0 1 f fd ["_law_script", "_law_k"] (spHand K) := by
  refine F.ok scHand (fun vs H Q E h => ?_) (fun cdv A outer s H vs Q E hr h => ?_)
  · obtain ⟨a, ns, k, rfl, _⟩ := h
    rfl
  · obtain ⟨a, ns, k, rfl, hS, k0, k1, q⟩ := h
    refine ⟨_, pss_cons (ps_set (i := 2) scHand.nd rfl (.inl rfl) (pe_imp (tCell K) (pe_ifExp (pt_cmpR op_lt (pv 1) (pe_callB call_len_seq (by rfl) zLen PySem.boot_len (pa_cons (pv 0) pa_nil)) (nomark _)) (pe_ix ix_list (pv 0) (pv 1) (fun _ _ => rfl)) pe_int) ?cell))
      (pss_cons (ps_set (i := 3) scHand.nd rfl (.inl rfl) (pe_op op_mul (pe_op op_mod (pe_callB call_abs (by rfl) zAbs (by decide +kernel) (pa_cons (pv 2) pa_nil))
          (pe_op op_mulW (pe_op op_mulW (pe_op op_pow pe_int pe_int) (pe_op op_pow pe_int pe_int)) (pe_op op_pow pe_int pe_int)))
        (pe_callTy call_int1 (by rfl) zInt (by decide +kernel) (pa_cons (pe_cmpR op_ge (pe_callB call_abs (by rfl) zAbs (by decide +kernel) (pa_cons (pv 2) pa_nil)) (pe_op op_pow pe_int pe_int) (nomark _)) pa_nil))))
      (pss_one (ps_ret (pe_lst (pa_cons (pv 3) (pa_cons (pe_op op_mod (pe_op op_mul (pe_op op_add (pe_op op_add (pe_op op_mod (pv 2) pe_int) (pe_op op_mul pe_int (pv 1))) pe_int) pe_int) pe_int) (pa_cons pe_int pa_nil))))))), ?_⟩
    case cell =>
      rintro σ H1 Q1 ⟨a, ns, k, e0, e1, hs, h0, hq⟩
      refine ⟨_, e1, _, e0, a, _, rfl, .inl hs, _, _, rfl, rfl, _, rfl, ite2 (fun hc => ?_) (fun hc => hq 0)⟩
      have hlt : k < ((ns.map V.int).length : Int) := of_decide_eq_true hc
      obtain ⟨v, hv, hm⟩ := atI_in h0 hlt
      obtain ⟨c, _, rfl⟩ := List.mem_map.mp hm
      exact ⟨_, e0, _, e1, a, _, k, _, rfl, rfl, hs, hv, hq c⟩
    refine ⟨a, ns, k, rfl, rfl, hS, k0, fun cell => ?_⟩
    refine ⟨_, rfl, cell, rfl, _, _, rfl, rfl, ⟨by decide, by decide, by decide⟩, _, _, rfl, rfl, ⟨by decide, by decide, by decide⟩, _, _, rfl, rfl, wide_mul big_one big_one (by decide) (by decide) (by decide), _, _, rfl, rfl, ⟨by decide, by decide, by decide⟩,
      _, _, rfl, rfl, wide_mul big_two big_one (by decide) (by decide) (by decide), _, _, rfl, rfl, big_pos, _, rfl, cell, rfl, _, _, rfl, rfl, ⟨by decide, by decide, by decide⟩, _, _, rfl, rfl, .inr ⟨_, rfl, _, _, rfl, rfl, .inr ?_, ?_⟩⟩
    · exact bit_small _
    · refine ⟨_, rfl, _, rfl, _, _, rfl, rfl, (by show (0 : Int) < 2147483629; decide), _, rfl, _, _, rfl, rfl, .inl ⟨by decide, by decide⟩, _, _, rfl, rfl, _, _, rfl, rfl, _, _, rfl, rfl, .inr ⟨by decide, by decide⟩, _, _, rfl, rfl, (by show (0 : Int) < 2147483647; decide), (by show 3 ≤ sizeLine; decide), fun p np => ?_⟩
      exact q _ p ⟨same_new np, np, _, _, _, upd_same, Int.emod_nonneg _ (by decide), Int.emod_lt_of_pos _ (by decide), Int.le_refl _, Int.le_refl _⟩
theorem scTake : FnScope ["_law_hand_here", "_law_many", "_law_digit", "_law_prime", "_law_drawn"] ["_law_hand_here", "_law_many"] (defScope sTake) := ⟨rfl, rfl, rfl, by decide +kernel, rfl, by decide +kernel, by decide +kernel⟩
theorem ok_take {f : Addr} {fd : FuncData} (F : Fun K "_law_take" "_law_take" sTake f fd) : FnOk P w K mg base CX0 1 f fd ["_law_hand_here", "_law_many"] spTake := by
  refine F.ok scTake (fun vs H Q E h => ?_) (fun cdv A outer s H vs Q E hr h => ?_)
  · obtain ⟨H0, p, n, m, rfl, _⟩ := h
    rfl
  · obtain ⟨H0, p, n, m, rfl, m0, m1, hn, ⟨s0, z, g, a, c, e, a0, a1, c0, c1⟩, q⟩ := h
    have stays : ∀ (o : HO), Same H0 (L2.upd H p o) := fun o b u k => by
      have hb : b ≠ p := fun t => by rw [t, z] at k; cases k
      rw [upd_ne hb]
      exact s0 b u k
    refine ⟨_, pss_cons (ps_if (pt_cmpR op_gt (pe_ix ix_list (pv 0) pe_int (fun _ _ => rfl)) pe_int (nomark _))
        (pss_cons (ps_set (i := 2) scTake.nd rfl (.inl rfl) (pe_op op_mod (pe_ix ix_list (pv 0) pe_int (fun _ _ => rfl)) (pv 1)))
          (pss_cons (ps_asg (pe_op op_fdivW (pe_ix ix_list (pv 0) pe_int (fun _ _ => rfl)) (pv 1)) (pg_sub (pv 0) pe_int set_list)) (pss_one (ps_ret (pv 2))))) pss_nil)
      (pss_cons (ps_asg (pe_op op_add (pe_ix ix_list (pv 0) pe_int (fun _ _ => rfl)) pe_int) (pg_sub (pv 0) pe_int set_list))
      (pss_cons (ps_set (i := 3) scTake.nd rfl (.inl rfl) (pe_ix ix_list (pe_lst (pa_cons pe_int (pa_cons pe_int (pa_cons pe_int (pa_cons pe_int (pa_cons pe_int pa_nil)))))) (pe_op op_mod (pe_ix ix_list (pv 0) pe_int (fun _ _ => rfl)) pe_int) (fun _ _ => rfl)))
      (pss_cons (ps_set (i := 4) scTake.nd rfl (.inl rfl) (pe_op op_mod (pe_op op_pow (pe_op op_add (pe_ix ix_list (pv 0) pe_int (fun _ _ => rfl)) (pe_op op_mul pe_int (pe_ix ix_list (pv 0) pe_int (fun _ _ => rfl)))) pe_int) (pv 3)))
      (pss_one (ps_ret (pe_op op_mod (pe_op op_fdiv (pe_op op_mod (pe_op op_mul (pv 4) (pe_op op_add (pe_op op_mod (pv 4) pe_int) (pe_ix ix_list (pv 0) pe_int (fun _ _ => rfl)))) (pv 3)) pe_int) (pv 1))))))), ?_⟩
    have i0 : ∀ x y u : V, atI [x, y, u] 0 = some x := fun _ _ _ => rfl
    have i1 : ∀ x y u : V, atI [x, y, u] 1 = some y := fun _ _ _ => rfl
    have i2 : ∀ x y u : V, atI [x, y, u] 2 = some u := fun _ _ _ => rfl
    refine ⟨_, rfl, p, _, _, _, rfl, rfl, SqL.of e, i0 _ _ _, _, _, rfl, rfl, _, rfl, ite2 (fun hc => ?_) (fun hc => ?_)⟩
    · refine ⟨_, rfl, p, _, _, _, rfl, rfl, SqL.of e, i0 _ _ _, _, rfl, _, _, rfl, rfl, m0, ?_⟩
      refine ⟨_, rfl, p, _, _, _, rfl, rfl, SqL.of e, i0 _ _ _, _, rfl, _, _, rfl, rfl, wide_div m0 (b := 60) (by omega) (by decide) (by decide), _, rfl, p, _, _, 0, rfl, rfl, e, rfl, ?_⟩
      refine ⟨_, rfl, q _ _ (Int.emod_nonneg _ (by omega)) (Int.emod_lt_of_pos _ m0) ⟨stays _, z, _, a, c, upd_same, a0, a1, c0, by omega⟩⟩
    · refine ⟨_, rfl, p, _, _, _, rfl, rfl, SqL.of e, i2 _ _ _, _, _, rfl, rfl, _, rfl, p, _, _, 2, rfl, rfl, e, rfl, ?_⟩
      obtain ⟨pr, hpr, pr0, pr1⟩ := prime_at (c + 1) (by omega)
      refine ⟨(by show 5 ≤ sizeLine; decide), fun r nr => ?_⟩
      have nrp : p ≠ r := ne_of_none (upd_same (H := H) (a := p) (o := .lst [.int g, .int a, .int (c + 1)])) nr
      have e2 : L2.upd (L2.upd H p (.lst [.int g, .int a, .int (c + 1)])) r (.lst [.int 2147483647, .int 2147483629, .int 2147483587, .int 2147483579, .int 2147483563]) p = some (.lst [.int g, .int a, .int (c + 1)]) := by
        rw [upd_ne nrp, upd_same]
      refine ⟨_, rfl, p, _, _, _, rfl, rfl, SqL.of e2, i2 _ _ _, _, _, rfl, rfl, (by show (0 : Int) < 5; decide), r, _, _, _, rfl, rfl, SqL.of upd_same, hpr, ?_⟩
      refine ⟨_, rfl, p, _, _, _, rfl, rfl, SqL.of e2, i1 _ _ _, _, rfl, p, _, _, _, rfl, rfl, SqL.of e2, i2 _ _ _, _, _, rfl, rfl, .inl ⟨by decide, by decide⟩, _, _, rfl, rfl, _, _, rfl, rfl, ⟨by decide, by decide, small_pow a0 a1 c0 c1 hn⟩, _, rfl, _, _, rfl, rfl, pr0, ?_⟩
      have d0 : 0 ≤ (a + 7919 * (c + 1)) ^ (3 : Int).toNat % pr := Int.emod_nonneg _ (by omega)
      have d1 : (a + 7919 * (c + 1)) ^ (3 : Int).toNat % pr < pr := Int.emod_lt_of_pos _ pr0
      refine ⟨_, rfl, _, rfl, _, _, rfl, rfl, (by show (0 : Int) < 1009; decide), _, rfl, p, _, _, _, rfl, rfl, SqL.of e2, i2 _ _ _, _, _, rfl, rfl, _, _, rfl, rfl, .inl ⟨by omega, by omega⟩, _, rfl, _, _, rfl, rfl, pr0, _, _, rfl, rfl, ⟨by decide, by decide⟩, _, rfl, _, _, rfl, rfl, m0, ?_⟩
      refine q _ _ (Int.emod_nonneg _ (by omega)) (Int.emod_lt_of_pos _ m0) ⟨fun b u k => ?_, z, g, a, c + 1, e2, a0, a1, by omega, by omega⟩
      have k2 := stays (.lst [.int g, .int a, .int (c + 1)]) b u k
      rw [upd_ne (ne_of_none k2 nr)]
      exact k2
theorem scOf : FnScope [ofN, ofS] [ofN, ofS] (defScope sOf) := ⟨rfl, rfl, rfl, by decide +kernel, rfl, by decide +kernel, by decide +kernel⟩
theorem ok_of {f fT : Addr} {fd fdT : FuncData} (F : Fun K "_law_of" "_law_of" sOf f fd) (GT : FnOk P w K mg base CX0 1 fT fdT ["_law_hand_here", "_law_many"] spTake) (mT : mg "_law_take" = some (.ref fT)) (kT : PySem.W.keepIn K (.ref fT) = true) (bT : Binds K fdT ["_law_hand_here", "_law_many"] []) (zLen : mg "len" = none) :
    FnOk P w K mg base CX0 2 f fd [ofN, ofS] (spOf K) := by
  refine F.ok scOf (fun vs H Q E h => ?_) (fun cdv A outer s H vs Q E hr h => ?_)
  · obtain ⟨H0, p, l, n, xs, rfl, _⟩ := h
    rfl
  · obtain ⟨H0, p, l, n, xs, rfl, hS, x0, x1, hn, hh, q⟩ := h
    refine ⟨_, pss_one (ps_ret (pe_ix ix_list (pv 1) (pe_call GT hr rfl mT kT bT .nil pass0 (pa_cons (pv 0) (pa_cons (pe_callB call_len_seq (by rfl) zLen PySem.boot_len (pa_cons (pv 1) pa_nil)) pa_nil))) (fun _ _ => rfl))), ?_⟩
    have len0 : 0 < xs.length := List.length_pos_iff.mpr x0
    refine ⟨_, rfl, _, rfl, _, rfl, l, xs, rfl, .inl (hh.1.seq hS), H0, p, n, (xs.length : Int), rfl, by omega, by omega, hn, hh, fun H' d d0 d1 hh' => ?_⟩
    obtain ⟨v, hv, hm⟩ := atI_in d0 d1
    exact ⟨l, xs, d, v, rfl, rfl, hh'.1.seq hS, hv, q H' v hm hh'⟩
end
end L2.Fu
/-! ## The law's names and formulas -/
namespace L2.Fu
open PySem PySem.Spec PyProof.Rows
theorem Hand.less {H0 H1 H : Hp} {p : Addr} {n : Nat} (h : Hand H1 H p n) (s : Same H0 H1) : Hand H0 H p n := by
  obtain ⟨t, z, r⟩ := h
  exact ⟨s.trans t, s.free z, r⟩
/-- a new object is laid, and told -/
theorem Hand.lay {H0 H : Hp} {p q : Addr} {n : Nat} (o : HO) (h : Hand H0 H p n) (f : H q = none) : Hand (L2.upd H0 q o) (L2.upd H q o) p n ∧ Same H0 (L2.upd H0 q o) := ⟨h.upd (h.ne f), same_new (h.1.free f)⟩
theorem Hand.here {H0 H : Hp} {p q : Addr} {n : Nat} {o : HO} (h : Hand H0 H p n) (e : H0 q = some o) : H q = some o := h.1 _ _ e
theorem Hand.apart {H0 H : Hp} {p q : Addr} {n : Nat} {o : HO} (h : Hand H0 H p n) (e : H0 q = some o) : q ≠ p := fun z => by
  obtain ⟨_, z0, _⟩ := h
  rw [z, z0] at e
  cases e
theorem mem_erase_of {α : Type} {x : α} {xs : List α} {k : Nat} (h : x ∈ xs.eraseIdx k) : x ∈ xs := (List.eraseIdx_sublist xs k).subset h
theorem map_erase {α β : Type} (g : α → β) : ∀ (xs : List α) (k : Nat), (xs.map g).eraseIdx k = (xs.eraseIdx k).map g
  | [], _ => rfl
  | _ :: _, 0 => rfl
  | x :: xs, k + 1 => by
    show g x :: (xs.map g).eraseIdx k = g x :: (xs.eraseIdx k).map g
    rw [map_erase g xs k]
theorem ix_in {d : Int} {n : Nat} (h0 : 0 ≤ d) (h1 : d < (n : Int)) : seqIndex? d n = some d.toNat := by
  unfold seqIndex?
  have e : ¬ d < 0 := by omega
  simp only [if_neg e]
  rw [if_pos (by rw [decide_eq_true h0, decide_eq_true h1]; rfl)]
def spNames : Sp := fun vs H Q _ => ∃ (H0 : Hp) (p : Addr) (n : Nat) (c : Nat), vs = [.ref p, .int ((c : Nat) : Int)] ∧ n < 100000000 ∧ Hand H0 H p n ∧
  ∀ (H1 H' : Hp) (l : Addr) (xs : List Str), Same H0 H1 → Hand H1 H' p (n + 10) → H1 l = some (.lst (xs.map V.str)) → xs.Sublist ten → xs.length ≤ c → Q (.ref l) H'
theorem sub_ten {xs : List Str} (h : xs.Sublist ten) : (∀ x ∈ xs, x ∈ ten) ∧ xs.length ≤ 10 := ⟨fun _ m => h.subset m, h.length_le⟩
theorem Hand.same {H0 H H' : Hp} {p : Addr} {n : Nat} (h : Hand H0 H p n) (s : Same H H') : Hand H0 H' p n := by
  obtain ⟨t0, z, g, a, c, e, r⟩ := h
  exact ⟨t0.trans s, z, g, a, c, s _ _ e, r⟩
section
variable {P : Program} {w : World} {K : PySem.W.Frag} {mg : Str → Option Value} {base : Heap}
theorem scNames : FnScope ["_law_hand_here", "_law_count_here", "_law_left"] ["_law_hand_here", "_law_count_here"] (defScope sNames) := ⟨rfl, rfl, rfl, by decide +kernel, rfl, by decide +kernel, by decide +kernel⟩
theorem ok_names {f fT : Addr} {fd fdT : FuncData} (F : Fun K "_law_names" "_law_names" sNames f fd) (GT : FnOk P w K mg base CX0 1 fT fdT ["_law_hand_here", "_law_many"] spTake) (mT : mg "_law_take" = some (.ref fT)) (kT : PySem.W.keepIn K (.ref fT) = true) (bT : Binds K fdT ["_law_hand_here", "_law_many"] []) (zLen : mg "len" = none) :
    FnOk P w K mg base CX0 2 f fd ["_law_hand_here", "_law_count_here"] spNames := by
  refine F.ok scNames (fun vs H Q E h => ?_) (fun cdv A outer s H vs Q E hr h => ?_)
  · obtain ⟨H0, p, n, c, rfl, _⟩ := h
    rfl
  · obtain ⟨H0, p, n, c, rfl, hn, hh, q⟩ := h
    refine ⟨_, pss_cons (ps_set (i := 2) scNames.nd rfl (.inl rfl) (pe_lst (pa_cons pe_str (pa_cons pe_str (pa_cons pe_str (pa_cons pe_str (pa_cons pe_str (pa_cons pe_str (pa_cons pe_str (pa_cons pe_str (pa_cons pe_str (pa_cons pe_str pa_nil))))))))))))
      (pss_cons (ps_while PassesOwn.never (pt_cmpR op_gt (pe_callB call_len_seq (by rfl) zLen PySem.boot_len (pa_cons (pv 2) pa_nil)) (pv 1) (nomark _))
        (pss_one (ps_expr (pe_bm PySem.F.plainAttrs_list PySem.F.slot_list_pop PySem.F.type_list_pop mt_popAt (pv 2) (pa_cons (pe_call GT hr rfl mT kT bT .nil pass0 (pa_cons (pv 0) (pa_cons (pe_callB call_len_seq (by rfl) zLen PySem.boot_len (pa_cons (pv 2) pa_nil)) pa_nil))) pa_nil)))))
      (pss_one (ps_ret (pv 2)))), ?_⟩
    refine ⟨(by show 10 ≤ sizeLine; decide), fun l nl => ?_⟩
    obtain ⟨h1, s1⟩ := hh.lay (.lst (ten.map V.str)) nl
    have z0 : H0 l = none := hh.1.free nl
    dsimp only []
    refine while_set (fun σ Hc => ∃ (xs : List Str) (H1 : Hp), σ = [some (.ref p), some (.int ((c : Nat) : Int)), some (.ref l)] ∧ Same H0 H1 ∧ H1 l = some (.lst (xs.map V.str)) ∧ xs.length ≤ 10 ∧ Hand H1 Hc p (n + (10 - xs.length)) ∧ xs.Sublist ten)
      (fun σ Hc => lenAt Hc l) ?_ ?_ ?_
    · exact ⟨ten, _, rfl, s1, upd_same, by decide, h1, List.Sublist.refl _⟩
    · rintro σ Hc ⟨xs, H1, rfl, s1, e1, l1, h1, ok⟩
      have e2 := h1.here e1
      refine ⟨_, rfl, l, _, rfl, .inl (SqL.of e2), _, rfl, _, _, rfl, rfl, _, rfl, ite2 (fun hc => ?_) (fun hc => ?_)⟩
      · have hlt := of_decide_eq_true hc
        rw [List.length_map] at hlt
        refine ⟨_, rfl, .inl ⟨rfl, _, SqL.of e2⟩, _, rfl, _, rfl, l, _, rfl, .inl (SqL.of e2), H1, p, n + (10 - xs.length), ((xs.map V.str).length : Int), rfl, ?_, ?_, by omega, h1, fun H2 d d0 d1 h2 => ?_⟩
        · rw [List.length_map]; omega
        · rw [List.length_map]; omega
        · rw [List.length_map] at d1
          have e3 := h2.here e1
          have dn : d.toNat < xs.length := by omega
          refine ⟨l, xs.map V.str, d, d.toNat, .str xs[d.toNat], rfl, rfl, e3, by omega, by omega, ?_, ?_, ?_⟩
          · rw [List.length_map]; exact ix_in d0 d1
          · rw [List.getElem?_map, List.getElem?_eq_getElem dn]; rfl
          · have el : (xs.map V.str).eraseIdx d.toNat = (xs.eraseIdx d.toNat).map V.str := map_erase V.str xs d.toNat
            have ll : (xs.eraseIdx d.toNat).length = xs.length - 1 := List.length_eraseIdx_of_lt dn
            rw [el]
            refine ⟨⟨xs.eraseIdx d.toNat, upd H1 l (.lst ((xs.eraseIdx d.toNat).map V.str)), rfl, fun b o k => ?_, upd_same, by omega, (h2.upd (h1.apart e1)).mono (by omega), (List.eraseIdx_sublist xs d.toNat).trans ok⟩, ?_⟩
            · by_cases hb : b = l
              · rw [hb, z0] at k
                cases k
              · rw [upd_ne hb]
                exact s1 b o k
            · show lenAt (upd H2 l (.lst ((xs.eraseIdx d.toNat).map V.str))) l < lenAt Hc l
              rw [lenAt_of upd_same, lenAt_of e2, List.length_map, List.length_map]
              omega
      · have hge := of_decide_eq_false (Bool.eq_false_iff.mpr hc)
        rw [List.length_map] at hge
        exact ⟨_, rfl, q H1 Hc l xs s1 (h1.mono (by omega)) e1 ok (by omega)⟩
    · rintro σ Hc Q1 Q2 imp ⟨x, hx, a, ys, e, hs, y, hy, i, j, e1, e2, k, e3, hq⟩
      exact ⟨x, hx, a, ys, e, hs, y, hy, i, j, e1, e2, k, e3, imp _ _ hq⟩
end
end L2.Fu
namespace L2.Fu
open PySem PySem.Spec PyProof.Rows
theorem pt_imp {X : Cx} {e : Expr} {t : TT} (t' : TT) (p : PT X e t) (h : ∀ σ H Q, t' σ H Q → t σ H Q) : PT X e t' := ⟨fun pins s σ H Q I q => p.run pins s σ H Q I (h σ H Q q)⟩
theorem ten_lay : ∀ x ∈ ten, PyData.canLay0 (.str x) = true := by decide +kernel
theorem lay_texts : ∀ {xs : List Str}, (∀ x ∈ xs, x ∈ ten) → PyData.canLayAll0 (xs.map PyData.str) = true
  | [], _ => by simp only [List.map_nil, PyData.canLayAll0]
  | x :: xs, h => by simp only [List.map_cons, PyData.canLayAll0, ten_lay x (h x List.mem_cons_self), lay_texts (xs := xs) fun y hy => h y (List.mem_cons_of_mem _ hy), Bool.and_self]
theorem deep_texts : ∀ xs : List Str, PyData.depthAll (xs.map PyData.str) = 0
  | [] => by simp only [List.map_nil, PyData.depthAll]
  | x :: xs => by simp only [List.map_cons, PyData.depthAll, PyData.depth, deep_texts xs, Nat.max_self]
theorem shaped_texts {xs : List Str} (h : ∀ x ∈ xs, x ∈ ten) : SeqAt.shaped (.list (xs.map PyData.str)) = true := by
  simp only [SeqAt.shaped, PyData.canLay0, PyData.depth, lay_texts h, deep_texts, Bool.true_and]
  decide
theorem dp_texts {K : PySem.W.Frag} {H : Hp} : ∀ xs : List Str, DpAll K H (xs.map V.str) (xs.map PyData.str)
  | [] => .nil
  | x :: xs => .cons (.str x) (dp_texts xs)
theorem eqv_nil (xs : List Str) : PyData.eqv (.list (xs.map PyData.str)) (.list []) = xs.isEmpty := by
  cases xs with
  | nil => simp only [List.map_nil, PyData.eqv, PyData.eqvAll, List.isEmpty_nil]
  | cons x xs => simp only [List.map_cons, PyData.eqv, PyData.eqvAll, List.isEmpty_cons]
theorem head_of {v : V} (h : v ∈ [V.str "all", V.str "any"]) : ∃ x : Str, v = .str x ∧ x ∈ heads ∧ x ≠ "feature" ∧ x ≠ "not" := by
  simp only [List.mem_cons, List.not_mem_nil, or_false] at h
  rcases h with rfl | rfl
  · exact ⟨_, rfl, by decide, by decide, by decide⟩
  · exact ⟨_, rfl, by decide, by decide, by decide⟩
theorem size_of {v : V} (h : v ∈ [V.int 0, V.int 1, V.int 2, V.int 2, V.int 2, V.int 3]) : ∃ m : Nat, v = .int ((m : Nat) : Int) ∧ m ≤ 3 := by
  simp only [List.mem_cons, List.not_mem_nil, or_false] at h
  rcases h with rfl | rfl | rfl | rfl | rfl | rfl
  · exact ⟨0, rfl, by decide⟩
  · exact ⟨1, rfl, by decide⟩
  · exact ⟨2, rfl, by decide⟩
  · exact ⟨2, rfl, by decide⟩
  · exact ⟨2, rfl, by decide⟩
  · exact ⟨3, rfl, by decide⟩
theorem okAll_append : ∀ {as bs : List Fm}, OkAll as → OkAll bs → OkAll (as ++ bs)
  | [], _, _, h => h
  | a :: as, bs, h, k => by
    simp only [OkAll, List.cons_append] at h ⊢
    exact ⟨h.1, okAll_append h.2 k⟩
theorem tallAll_append : ∀ as bs : List Fm, tallAll (as ++ bs) = max (tallAll as) (tallAll bs)
  | [], bs => by simp only [tallAll, List.nil_append, Nat.zero_max]
  | a :: as, bs => by simp only [tallAll, List.cons_append, tallAll_append as bs, Nat.max_assoc]
/-- _law_formula(hand, names, depth), with n calls left -/
def spForm (n : Nat) : Sp := fun vs H Q _ => ∃ (H0 : Hp) (p l : Addr) (xs : List Str) (k d : Nat), vs = [.ref p, .ref l, .int ((d : Nat) : Int)] ∧ d + 1 ≤ n ∧ d ≤ 5 ∧ k + 3 * 4 ^ d < 100000000 ∧ Hand H0 H p k ∧ H0 l = some (.lst (xs.map V.str)) ∧ (∀ x ∈ xs, x ∈ ten) ∧ xs.length ≤ 10 ∧
  ∀ (H1 H' : Hp) (v : V) (f : Fm), Same H0 H1 → Hand H1 H' p (k + 3 * 4 ^ d) → FmAt H1 v f → Ok f → (subs f).length ≤ 4 ^ d → tall f ≤ d + 1 → Q v H'
def tWay : TE := fun σ H Q => ∃ (H0 : Hp) (p : Addr) (k d : Nat), σ[0]? = some (some (.ref p)) ∧ σ[2]? = some (some (.int ((d : Nat) : Int))) ∧ k < 1000000000 ∧ Hand H0 H p k ∧ ∀ (H' : Hp) (c : Int), 0 ≤ c → (d = 0 → c = 0) → Hand H0 H' p (k + 1) → Q (.int c) H'
def tNamed : TT := fun σ H Q => ∃ (H0 : Hp) (p l : Addr) (k : Nat) (xs : List Str) (c : Int), σ[1]? = some (some (.ref l)) ∧ σ[3]? = some (some (.int c)) ∧ Hand H0 H p k ∧ H0 l = some (.lst (xs.map V.str)) ∧ (∀ x ∈ xs, x ∈ ten) ∧ ∀ (H' : Hp) (b : Bool), Hand H0 H' p k → (b = true → xs ≠ []) → Q b H'
section
variable {P : Program} {w : World} {K : PySem.W.Frag} {mg : Str → Option Value} {base : Heap}
abbrev nForm : List Str := ["_law_hand_here", "_law_names_here", "_law_depth", "_law_way", "_law_size", "_law_part"]
theorem scForm : FnScope nForm ["_law_hand_here", "_law_names_here", "_law_depth"] (defScope sForm) := ⟨rfl, rfl, rfl, by decide +kernel, rfl, by decide +kernel, by decide +kernel⟩
theorem form_step {n : Nat} {f fT fO : Addr} {fd fdT fdO : FuncData} (F : Fun K "_law_formula" "_law_formula" sForm f fd)
    (GF : FnOk P w K mg base CX0 (n + 2) f fd ["_law_hand_here", "_law_names_here", "_law_depth"] (spForm n)) (mF : mg "_law_formula" = some (.ref f)) (kF : PySem.W.keepIn K (.ref f) = true) (bF : Binds K fd ["_law_hand_here", "_law_names_here", "_law_depth"] [])
    (GT : FnOk P w K mg base CX0 1 fT fdT ["_law_hand_here", "_law_many"] spTake) (mT : mg "_law_take" = some (.ref fT)) (kT : PySem.W.keepIn K (.ref fT) = true) (bT : Binds K fdT ["_law_hand_here", "_law_many"] [])
    (GO : FnOk P w K mg base CX0 2 fO fdO [ofN, ofS] (spOf K)) (mO : mg "_law_of" = some (.ref fO)) (kO : PySem.W.keepIn K (.ref fO) = true) (bO : Binds K fdO [ofN, ofS] [])
    (zRange : mg "range" = none) (zTup : mg "tuple" = none) : FnOk P w K mg base CX0 (n + 3) f fd ["_law_hand_here", "_law_names_here", "_law_depth"] (spForm (n + 1)) := by
  refine F.ok scForm (fun vs H Q E h => ?_) (fun cdv A outer s H vs Q E hr h => ?_)
  · obtain ⟨H0, p, l, xs, k, d, rfl, _⟩ := h
    rfl
  · obtain ⟨H0, p, l, xs, k, d, rfl, dn, d5, kd, hh, el, okx, lx, q⟩ := h
    have hr1 := hr.mono (show 1 ≤ n + 2 by omega)
    have hr2 := hr.mono (show 2 ≤ n + 2 by omega)
    refine ⟨_, pss_cons (ps_set (i := 3) scForm.nd rfl (.inl rfl) (pe_imp tWay (pe_ifExp (pt_cmpR op_gt (pv 2) pe_int (nomark _)) (pe_call GT hr1 rfl mT kT bT .nil pass0 (pa_cons (pv 0) (pa_cons pe_int pa_nil))) pe_int) ?way))
      (pss_cons (ps_if (pt_imp tNamed (PW.pt (pw_and (pt_cmpR op_lt (pv 3) pe_int (nomark _)) (pw_and1 (pt_cmpR (op_neD hr.units) (pv 1) (pe_lst pa_nil) (nomark _))))) ?named)
        (pss_one (ps_ret (pe_tup (pa_cons pe_str (pa_cons (pe_call GO hr2 rfl mO kO bO .nil pass0 (pa_cons (pv 0) (pa_cons (pv 1) pa_nil))) pa_nil))))) pss_nil)
      (pss_cons (ps_if (pt_cmpR op_eq (pv 2) pe_int (nomark _)) (pss_one (ps_ret (pe_tup (pa_cons (pe_call GO hr2 rfl mO kO bO .nil pass0 (pa_cons (pv 0) (pa_cons (pe_lst (pa_cons pe_str (pa_cons pe_str pa_nil))) pa_nil))) pa_nil)))) pss_nil)
      (pss_cons (ps_if (pt_cmpR op_lt (pv 3) pe_int (nomark _)) (pss_one (ps_ret (pe_tup (pa_cons pe_str (pa_cons (pe_call GF hr rfl mF kF bF .nil pass0 (pa_cons (pv 0) (pa_cons (pv 1) (pa_cons (pe_op op_sub (pv 2) pe_int) pa_nil)))) pa_nil))))) pss_nil)
      (pss_cons (ps_set (i := 4) scForm.nd rfl (.inl rfl) (pe_call GO hr2 rfl mO kO bO .nil pass0 (pa_cons (pv 0) (pa_cons (pe_lst (pa_cons pe_int (pa_cons pe_int (pa_cons pe_int (pa_cons pe_int (pa_cons pe_int (pa_cons pe_int pa_nil))))))) pa_nil))))
      (pss_one (ps_ret (pe_op op_catT (pe_tup (pa_cons (pe_call GO hr2 rfl mO kO bO .nil pass0 (pa_cons (pv 0) (pa_cons (pe_lst (pa_cons pe_str (pa_cons pe_str pa_nil))) pa_nil))) pa_nil))
        (pe_callTy call_tuple_of (by rfl) zTup PyProof.Rows.boot_tuple (pa_cons (pe_lc (own := [("_law_part", 5)]) (g := gName 5) (tt := tYes) (te := tCall (spForm n) [] E0 (tCons (tVar 0) (tCons (tVar 1) (tCons (tOp rSub (tVar 2) (tC (.int 1))) tNil)))) rfl scForm.nd (pi_range1 (by rfl) zRange (pa_cons (pv 4) pa_nil))
          (blkOk_by (N := nForm) (sc := defScope sForm) (by decide +kernel)) (fun _ _ _ _ _ => pg_name (i := 5) scForm.nd rfl (Or.inl rfl)) (fun _ _ _ _ _ => pts_nil)
          (fun _ _ _ _ _ => pe_call GF hr rfl mF kF bF .nil pass0 (pa_cons (pv 0) (pa_cons (pv 1) (pa_cons (pe_op op_sub (pv 2) pe_int) pa_nil))))) pa_nil))))))))), ?_⟩
    case way =>
      rintro σ H1 Q1 ⟨H0, p, k, d, e0, e2, kk, h1, hq⟩
      refine ⟨_, e2, _, _, rfl, rfl, _, rfl, ite2 (fun hc => ?_) (fun hc => ?_)⟩
      · have hd : (0 : Int) < (d : Int) := of_decide_eq_true hc
        exact ⟨_, e0, H0, p, k, 9, rfl, by decide, by decide, kk, h1, fun H' c c0 c1 h2 => hq H' c c0 (fun z => by omega) h2⟩
      · exact hq H1 0 (Int.le_refl _) (fun _ => rfl) (h1.mono (by omega))
    case named =>
      rintro σ H1 Q1 ⟨H0, p, l, k, xs, c, e1, e3, h1, el, okx, hq⟩
      refine ⟨_, e3, _, _, rfl, rfl, _, rfl, ite2 (fun hc => ?_) (fun hc => hq H1 false h1 nofun)⟩
      refine ⟨_, e1, Nat.zero_le _, fun r nr => ?_⟩
      have h2 : Hand H0 (upd H1 r (.lst [])) p k := h1.off (h1.ne nr) (h1.1.free nr)
      refine ⟨_, _, .lst (SqL.of (h2.here el)) (dp_texts xs), .lst (SqL.of upd_same) .nil, shaped_texts okx, rfl, _, rfl, ?_⟩
      rw [eqv_nil]
      exact hq _ _ h2 fun hb z => by rw [z] at hb; cases hb
    have p4 : 1 ≤ 4 ^ d := Nat.pow_le_pow_right (by decide) (Nat.zero_le d)
    refine ⟨H0, p, k, d, rfl, rfl, by omega, hh, fun Ha c c0 cd ha => ?_⟩
    refine ⟨H0, p, l, k + 1, xs, c, rfl, rfl, ha, el, okx, fun Hb b hb nb => ite2 (fun hc => ?_) (fun hc => ?_)⟩
    · have nx := nb hc
      refine ⟨_, rfl, _, rfl, H0, p, l, k + 1, xs.map V.str, rfl, SqL.of el, fun z => nx (List.map_eq_nil_iff.mp z), by rw [List.length_map]; omega, by omega, hb, fun Hc v hv h2 => ?_⟩
      obtain ⟨x, hx, rfl⟩ := List.mem_map.mp hv
      refine ⟨(by show 2 ≤ sizeLine; decide), fun t nt => ?_⟩
      obtain ⟨h3, s3⟩ := h2.lay (.tup [.str "feature", .str x]) nt
      refine q _ _ (.ref t) (.ft x) s3 (h3.mono (by omega)) (.ft upd_same) (by simp only [Ok]; exact okx x hx) (by simp only [subs]; exact p4) (by simp only [tall]; omega)
    · clear nb hc
      refine ⟨_, rfl, rfl, _, rfl, ?_⟩
      by_cases dz : d = 0
      · subst dz
        rw [decide_eq_true (by rfl)]
        refine iteT ⟨_, rfl, (by show 2 ≤ sizeLine; decide), fun r nr => ?_⟩
        obtain ⟨h2, s2⟩ := hb.lay (.lst [.str "all", .str "any"]) nr
        refine ⟨_, p, r, k + 1, [.str "all", .str "any"], rfl, SqL.of upd_same, List.cons_ne_nil _ _, by decide, by omega, h2, fun Hc v hv h3 => ?_⟩
        refine ⟨(by show 1 ≤ sizeLine; decide), fun t nt => ?_⟩
        obtain ⟨h4, s4⟩ := h3.lay (.tup [v]) nt
        obtain ⟨h, rfl, hh1, hh2, hh3⟩ := head_of hv
        exact q _ _ (.ref t) (.nd h []) (s2.trans s4) (h4.mono (by omega)) (.nd upd_same hh2 .nil) (by simp only [Ok, OkAll]; exact ⟨hh1, fun z => absurd z hh3, trivial⟩) (by simp only [subs, subsAll]; exact p4) (by simp only [tall, tallAll]; omega)
      · obtain ⟨e, rfl⟩ : ∃ e, d = e + 1 := ⟨d - 1, by omega⟩
        rw [decide_eq_false (fun z => by have := V.int.inj z; omega)]
        have p5 : 4 ^ (e + 1) = 4 * 4 ^ e := by rw [Nat.pow_succ, Nat.mul_comm]
        have p6 : 1 ≤ 4 ^ e := Nat.pow_le_pow_right (by decide) (Nat.zero_le e)
        rw [p5] at kd
        have pred : V.int (((e + 1 : Nat) : Int) - 1) = V.int ((e : Nat) : Int) := by congr 1; omega
        refine iteF ⟨_, rfl, _, _, rfl, rfl, _, rfl, ite2 (fun hc => ?_) (fun hc => ?_)⟩
        · refine ⟨_, rfl, _, rfl, _, rfl, _, _, rfl, rfl, H0, p, l, xs, k + 1, e, ?_, by omega, by omega, by omega, hb, el, okx, lx, fun H1 H2 v g s1 h1 a1 o1 z1 t1 => ?_⟩
          · exact congrArg (fun z => [V.ref p, V.ref l, z]) pred
          · refine ⟨(by show 2 ≤ sizeLine; decide), fun t nt => ?_⟩
            obtain ⟨h4, s4⟩ := h1.lay (.tup [.str "not", v]) nt
            refine q _ _ (.ref t) (.nd "not" [g]) (s1.trans s4) (h4.mono (by omega)) (.nd upd_same (by decide) (.cons (a1.mono s4.toT) .nil)) (by simp only [Ok, OkAll]; exact ⟨by decide, fun _ => rfl, o1, trivial⟩) ?_ ?_
            · simp only [subs, subsAll, List.append_nil, List.length_cons]
              omega
            · simp only [tall, tallAll]
              omega
        · clear hc
          refine ⟨_, rfl, (by show 6 ≤ sizeLine; decide), fun r nr => ?_⟩
          obtain ⟨h2, s2⟩ := hb.lay (.lst [.int 0, .int 1, .int 2, .int 2, .int 2, .int 3]) nr
          refine ⟨_, p, r, k + 1, [.int 0, .int 1, .int 2, .int 2, .int 2, .int 3], rfl, SqL.of upd_same, List.cons_ne_nil _ _, by decide, by omega, h2, fun Hc v hv h3 => ?_⟩
          obtain ⟨m, rfl, m3⟩ := size_of hv
          generalize upd H0 r (.lst [.int 0, .int 1, .int 2, .int 2, .int 2, .int 3]) = G1 at s2 h2 h3
          refine ⟨_, rfl, (by show 2 ≤ sizeLine; decide), fun r2 nr2 => ?_⟩
          obtain ⟨h4, s4⟩ := h3.lay (.lst [.str "all", .str "any"]) nr2
          refine ⟨_, p, r2, k + 2, [.str "all", .str "any"], rfl, SqL.of upd_same, List.cons_ne_nil _ _, by decide, by omega, h4, fun Hd v hv h5 => ?_⟩
          generalize upd G1 r2 (.lst [.str "all", .str "any"]) = G2 at s4 h4 h5
          obtain ⟨h, rfl, hh1, hh2, hh3⟩ := head_of hv
          refine ⟨(by show 1 ≤ sizeLine; decide), fun t nt => ?_⟩
          obtain ⟨h6, s6⟩ := h5.lay (.tup [.str h]) nt
          have e6 : upd G2 t (.tup [.str h]) t = some (.tup [.str h]) := upd_same
          have S6 := s2.trans (s4.trans s6)
          generalize upd G2 t (.tup [.str h]) = G3 at s6 h6 e6 S6
          refine ⟨_, rfl, ((m : Nat) : Int), rfl, by omega, by omega, fun D nD => ?_⟩
          obtain ⟨h7, s7⟩ := h6.lay (.lst []) nD
          have nD3 : G3 D = none := h6.1.free nD
          refine lc_range (n := ((m : Nat) : Int).toNat) (fun i Hc => ∃ (H1 : Hp) (vs : List V) (fs : List Fm), Same G3 H1 ∧ Hand H1 Hc p (k + 3 + i * (3 * 4 ^ e)) ∧ H1 D = some (.lst vs) ∧ vs.length = i ∧ FmAll H1 vs fs ∧ OkAll fs ∧ (subsAll fs).length ≤ i * 4 ^ e ∧ tallAll fs ≤ e + 1) ?_ ?_ ?_
          · refine ⟨_, [], [], s7, h7.mono (by omega), upd_same, rfl, .nil, by simp only [OkAll], by simp only [subsAll]; exact Nat.zero_le _, by simp only [tallAll]; omega⟩
          · rintro i He hi ⟨H1, vs, fs, s8, h8, e8, l8, a8, o8, z8, t8⟩
            have i3 : i * (3 * 4 ^ e) ≤ 2 * (3 * 4 ^ e) := Nat.mul_le_mul_right _ (by omega)
            refine ⟨rfl, _, rfl, _, rfl, _, rfl, _, _, rfl, rfl, H1, p, l, xs, k + 3 + i * (3 * 4 ^ e), e, ?_, by omega, by omega, by omega, h8, s8 _ _ (S6 _ _ el), okx, lx, fun H2 H3 v g s9 h9 a9 o9 z9 t9 => ?_⟩
            · exact congrArg (fun z => [V.ref p, V.ref l, z]) pred
            · have e9 := s9 _ _ e8
              refine ⟨vs, h9.here e9, ?_, upd H2 D (.lst (vs ++ [v])), vs ++ [v], fs ++ [g], fun b o kb => ?_, (h9.upd (h9.apart e9)).mono ?_, upd_same, ?_, (a8.mono (s9.toT.trans (sameT_lst e9))).append (.cons (a9.mono (sameT_lst e9)) .nil), okAll_append o8 ⟨o9, trivial⟩, ?_, ?_⟩
              · rw [l8]
                exact Nat.lt_of_lt_of_le (show i < 3 by omega) (by decide)
              · rw [upd_ne (ne_of_none kb nD3)]
                exact s9 _ _ (s8 _ _ kb)
              · rw [Nat.succ_mul i]
                omega
              · rw [List.length_append, l8]
                rfl
              · rw [subsAll_append, List.length_append, Nat.succ_mul i]
                simp only [subsAll, List.append_nil]
                omega
              · rw [tallAll_append]
                simp only [tallAll]
                omega
          · rintro He ⟨H1, vs, fs, s8, h8, e8, l8, a8, o8, z8, t8⟩
            have mm : ((m : Nat) : Int).toNat = m := by omega
            rw [mm] at h8 l8 z8
            have i3 : m * (3 * 4 ^ e) ≤ 3 * (3 * 4 ^ e) := Nat.mul_le_mul_right _ m3
            have i4 : m * 4 ^ e ≤ 3 * 4 ^ e := Nat.mul_le_mul_right _ m3
            refine ⟨D, vs, rfl, .inl ⟨SqL.of (h8.here e8), fun u nu => ?_⟩⟩
            obtain ⟨h9, s9⟩ := h8.lay (.tup vs) nu
            have et : upd H1 u (.tup vs) t = some (.tup [.str h]) := s9 _ _ (s8 _ _ e6)
            refine ⟨t, u, [.str h], vs, rfl, rfl, SqT.of (h9.here et), SqT.of upd_same, List.cons_ne_nil _ _, ?_, fun z => ?_, fun nz r nr => ?_⟩
            · rw [l8]
              exact Nat.le_trans (show 1 + m ≤ 4 by omega) (by decide)
            · subst z
              cases a8
              exact q _ _ (.ref t) (.nd h []) (S6.trans (s8.trans s9)) (h9.mono (by omega)) (.nd et hh2 .nil) (by simp only [Ok, OkAll]; exact ⟨hh1, fun z => absurd z hh3, trivial⟩) (by simp only [subs, subsAll]; exact p4) (by simp only [tall, tallAll]; omega)
            · obtain ⟨hA, sA⟩ := h9.lay (.tup ([.str h] ++ vs)) nr
              refine q _ _ (.ref r) (.nd h fs) (S6.trans (s8.trans (s9.trans sA))) (hA.mono (by omega)) (.nd upd_same hh2 (a8.mono (s9.trans sA).toT)) (by simp only [Ok]; exact ⟨hh1, fun z => absurd z hh3, o8⟩) ?_ ?_
              · simp only [subs, List.length_cons]
                omega
              · simp only [tall]
                omega
theorem form_none {f : Addr} {fd : FuncData} : FnOk P w K mg base CX0 2 f fd ["_law_hand_here", "_law_names_here", "_law_depth"] (spForm 0) := by
  have no : ∀ vs H Q E, ¬ spForm 0 vs H Q E := fun vs H Q E h => by
    obtain ⟨_, _, _, _, _, d, _, dn, _⟩ := h
    omega
  exact ⟨fun vs H Q E h => absurd h (no vs H Q E), fun A outer s H args us vs Q E _ _ _ _ h => absurd h (no vs H Q E)⟩
theorem ok_form {f fT fO : Addr} {fd fdT fdO : FuncData} (F : Fun K "_law_formula" "_law_formula" sForm f fd) (mF : mg "_law_formula" = some (.ref f)) (kF : PySem.W.keepIn K (.ref f) = true) (bF : Binds K fd ["_law_hand_here", "_law_names_here", "_law_depth"] [])
    (GT : FnOk P w K mg base CX0 1 fT fdT ["_law_hand_here", "_law_many"] spTake) (mT : mg "_law_take" = some (.ref fT)) (kT : PySem.W.keepIn K (.ref fT) = true) (bT : Binds K fdT ["_law_hand_here", "_law_many"] [])
    (GO : FnOk P w K mg base CX0 2 fO fdO [ofN, ofS] (spOf K)) (mO : mg "_law_of" = some (.ref fO)) (kO : PySem.W.keepIn K (.ref fO) = true) (bO : Binds K fdO [ofN, ofS] [])
    (zRange : mg "range" = none) (zTup : mg "tuple" = none) : ∀ n, FnOk P w K mg base CX0 (n + 2) f fd ["_law_hand_here", "_law_names_here", "_law_depth"] (spForm n)
  | 0 => form_none
  | n + 1 => form_step F (ok_form F mF kF bF GT mT kT bT GO mO kO bO zRange zTup n) mF kF bF GT mT kT bT GO mO kO bO zRange zTup
end
end L2.Fu
/-! ## Objects of many kinds -/
namespace L2.Fu
open PySem PySem.Spec PyProof.Rows
/-- the data's own heap Z within the told one, apart from H0 -/
def Zed (H0 Z G : Hp) : Prop := Same Z G ∧ ∀ b, H0 b ≠ none → Z b = none
theorem Zed.upd {H0 Z G : Hp} {q : Addr} {o : HO} (z : Zed H0 Z G) (f : H0 q = none) : Zed H0 (L2.upd Z q o) (L2.upd G q o) := by
  refine ⟨fun b u k => ?_, fun b hb => ?_⟩
  · by_cases h : b = q
    · rw [h, upd_same] at k ⊢
      exact k
    · rw [upd_ne h] at k ⊢
      exact z.1 b u k
  · rw [upd_ne (fun h => hb (by rw [h]; exact f))]
    exact z.2 b hb
theorem Zed.same {H0 Z G G' : Hp} (z : Zed H0 Z G) (s : Same G G') : Zed H0 Z G' := ⟨z.1.trans s, z.2⟩
theorem Zed.start {H0 : Hp} : Zed H0 (fun _ => none) H0 := ⟨(fun _ _ k => nomatch k), fun _ _ => rfl⟩
def spOdd : Sp := fun vs H Q _ => ∃ (H0 : Hp) (p : Addr) (n : Nat), vs = [.ref p] ∧ n < 100000000 ∧ Hand H0 H p n ∧
  ∀ (H1 H' : Hp) (v : V) (d : PyData), Same H0 H1 → Hand H1 H' p (n + 30) → ∀ Z : Hp, Zed H0 Z H1 → Da Z v d → Shows d 1000 30 → Q v H'
section
variable {P : Program} {w : World} {K : PySem.W.Frag} {mg : Str → Option Value} {base : Heap}
theorem scOdd : FnScope ["_law_hand_here", oddS, "_law_found", "_law_turn"] ["_law_hand_here"] (defScope sOdd) := ⟨rfl, rfl, rfl, by decide +kernel, rfl, by decide +kernel, by decide +kernel⟩
theorem ok_odd {f fO : Addr} {fd fdO : FuncData} (F : Fun K "_law_odd" "_law_odd" sOdd f fd) (GO : FnOk P w K mg base CX0 2 fO fdO [ofN, ofS] (spOf K)) (mO : mg "_law_of" = some (.ref fO)) (kO : PySem.W.keepIn K (.ref fO) = true) (bO : Binds K fdO [ofN, ofS] []) (zRange : mg "range" = none) :
    FnOk P w K mg base CX0 3 f fd ["_law_hand_here"] spOdd := by
  refine F.ok scOdd (fun vs H Q E h => ?_) (fun cdv A outer s H vs Q E hr h => ?_)
  · obtain ⟨H0, p, n, rfl, _⟩ := h
    rfl
  · obtain ⟨H0, p, n, rfl, hn, hh, q⟩ := h
    refine ⟨_, pss_cons (ps_set (i := 1) scOdd.nd rfl (.inl rfl) (pe_lst (pa_cons pe_non (pa_cons pe_bl (pa_cons pe_bl (pa_cons pe_int (pa_cons pe_int (pa_cons (pe_un un_neg pe_int) (pa_cons pe_int (pa_cons pe_int (pa_cons (pe_op op_pow pe_int pe_int) (pa_cons pe_str (pa_cons pe_str (pa_cons pe_str (pa_cons pe_str (pa_cons pe_str (pa_cons pe_str (pa_cons pe_str pa_nil))))))))))))))))))
      (pss_cons (ps_set (i := 1) scOdd.nd rfl (.inl rfl) (pe_op op_cat (pv 1) (pe_lst (pa_cons (pe_tup pa_nil) (pa_cons (pe_lstN pa_nil) (pa_cons pe_dnewK (pa_cons (pe_tup (pa_cons pe_str pa_nil)) (pa_cons (pe_tup (pa_cons pe_str pa_nil)) (pa_cons (pe_tup (pa_cons pe_str pa_nil)) (pa_cons (pe_tup (pa_cons pe_str (pa_cons pe_str pa_nil))) (pa_cons (pe_lstN (pa_cons (pe_tup (pa_cons pe_str pa_nil)) pa_nil)) (pa_cons (pe_disp (pps_cons pe_str (pe_tup pa_nil) pps_nil) rfl rfl (by simp) (by decide)) (pa_cons (pe_tup (pa_cons (pe_tup (pa_cons pe_str (pa_cons (pe_tup pa_nil) pa_nil))) pa_nil)) pa_nil)))))))))))))
      (pss_cons (ps_set (i := 2) scOdd.nd rfl (.inl rfl) (pe_call GO hr rfl mO kO bO .nil pass0 (pa_cons (pv 0) (pa_cons (pv 1) pa_nil))))
      (pss_cons (ps_for PassesOwn.never rfl (pi_range1 (by rfl) zRange (pa_cons (pe_call GO hr rfl mO kO bO .nil pass0 (pa_cons (pv 0) (pa_cons (pe_lst (pa_cons pe_int (pa_cons pe_int (pa_cons pe_int (pa_cons pe_int (pa_cons pe_int (pa_cons pe_int pa_nil))))))) pa_nil))) pa_nil)) (pg_name (i := 3) scOdd.nd rfl (.inl rfl))
        (pss_one (ps_set (i := 2) scOdd.nd rfl (.inl rfl) (pe_call GO hr rfl mO kO bO .nil pass0 (pa_cons (pv 0) (pa_cons (pe_lst (pa_cons (pe_tup (pa_cons (pv 2) pa_nil)) (pa_cons (pe_lstN (pa_cons (pv 2) pa_nil))
          (pa_cons (pe_disp (pps_cons pe_str (pv 2) pps_nil) rfl rfl (by simp) (by decide)) pa_nil)))) pa_nil))))))
      (pss_one (ps_ret (pv 2)))))), ?_⟩
    refine ⟨_, rfl, _, _, rfl, rfl, ⟨by decide, by decide, by decide⟩, (by show 16 ≤ sizeLine; decide), fun l1 m1 => ?_⟩
    have h0 : Hand H0 (upd H l1 (.lst [.non, .bl true, .bl false, .int 0, .int 1, .int (-1), .int 99, .int 100, .int (10 ^ (30 : Int).toNat), .str "", .str "a", .str "A", .str "longname", .str "toolongname", .str "a1", .str "a b"])) p n := hh.same (same_new m1)
    have x1 : upd H l1 (.lst [.non, .bl true, .bl false, .int 0, .int 1, .int (-1), .int 99, .int 100, .int (10 ^ (30 : Int).toNat), .str "", .str "a", .str "A", .str "longname", .str "toolongname", .str "a1", .str "a b"]) l1 = some (.lst [.non, .bl true, .bl false, .int 0, .int 1, .int (-1), .int 99, .int 100, .int (10 ^ (30 : Int).toNat), .str "", .str "a", .str "A", .str "longname", .str "toolongname", .str "a1", .str "a b"]) := upd_same
    generalize upd H l1 (.lst [.non, .bl true, .bl false, .int 0, .int 1, .int (-1), .int 99, .int 100, .int (10 ^ (30 : Int).toNat), .str "", .str "a", .str "A", .str "longname", .str "toolongname", .str "a1", .str "a b"]) = K0 at h0 x1 ⊢
    refine ⟨_, rfl, ?_⟩
    obtain ⟨G0, eG0⟩ : ∃ G, G = H0 := ⟨_, rfl⟩
    have z0 : Zed H0 (fun _ => none) G0 := by rw [eG0]; exact Zed.start
    have c0 : Same H0 G0 := by rw [eG0]; exact Same.refl _
    rw [← eG0] at h0
    generalize (fun _ => none : Hp) = Z0 at z0
    refine ⟨(by show 0 ≤ sizeLine; decide), fun q1 n1 => ?_⟩
    have y1 := same_new (o := .tup []) n1
    obtain ⟨h1, t1⟩ := h0.lay (.tup []) n1
    have f1 : H0 q1 = none := c0.free (h0.1.free n1)
    have z1 := z0.upd (o := .tup []) f1
    have v1 := same_new (o := .tup []) (z0.1.free (h0.1.free n1))
    have c1 := c0.trans t1
    have a1 : Da (upd Z0 q1 (.tup [])) (.ref q1) (.tuple []) := .tup upd_same .nil
    generalize upd Z0 q1 (.tup []) = Z1 at z1 v1 a1
    generalize upd G0 q1 (.tup []) = G1 at h1 t1 z1 c1
    generalize upd K0 q1 (.tup []) = K1 at h1 y1 ⊢
    refine ⟨(by show 0 ≤ sizeLine; decide), fun q2 n2 u2 => ?_⟩
    have y2 := same_new (o := .lst []) n2
    obtain ⟨h2, t2⟩ := h1.lay (.lst []) n2
    have f2 : H0 q2 = none := c1.free (h1.1.free n2)
    have z2 := z1.upd (o := .lst []) f2
    have v2 := same_new (o := .lst []) (z1.1.free (h1.1.free n2))
    have c2 := c1.trans t2
    have a2 : Da (upd Z1 q2 (.lst [])) (.ref q2) (.list []) := .lst upd_same u2 .nil
    generalize upd Z1 q2 (.lst []) = Z2 at z2 v2 a2
    generalize upd G1 q2 (.lst []) = G2 at h2 t2 z2 c2
    generalize upd K1 q2 (.lst []) = K2 at h2 y2 ⊢
    intro q3 n3
    have y3 := same_new (o := .dK []) n3
    obtain ⟨h3, t3⟩ := h2.lay (.dK []) n3
    have f3 : H0 q3 = none := c2.free (h2.1.free n3)
    have z3 := z2.upd (o := .dK []) f3
    have v3 := same_new (o := .dK []) (z2.1.free (h2.1.free n3))
    have c3 := c2.trans t3
    have a3 : Da (upd Z2 q3 (.dK [])) (.ref q3) (.dict []) := Da.dic (kvs := []) (ds := []) upd_same .nil
    generalize upd Z2 q3 (.dK []) = Z3 at z3 v3 a3
    generalize upd G2 q3 (.dK []) = G3 at h3 t3 z3 c3
    generalize upd K2 q3 (.dK []) = K3 at h3 y3 ⊢
    refine ⟨(by show 1 ≤ sizeLine; decide), fun q4 n4 => ?_⟩
    have y4 := same_new (o := .tup [.str "a"]) n4
    obtain ⟨h4, t4⟩ := h3.lay (.tup [.str "a"]) n4
    have f4 : H0 q4 = none := c3.free (h3.1.free n4)
    have z4 := z3.upd (o := .tup [.str "a"]) f4
    have v4 := same_new (o := .tup [.str "a"]) (z3.1.free (h3.1.free n4))
    have c4 := c3.trans t4
    have a4 : Da (upd Z3 q4 (.tup [.str "a"])) (.ref q4) (.tuple [.str "a"]) := .tup upd_same (.cons (.str _) .nil)
    generalize upd Z3 q4 (.tup [.str "a"]) = Z4 at z4 v4 a4
    generalize upd G3 q4 (.tup [.str "a"]) = G4 at h4 t4 z4 c4
    generalize upd K3 q4 (.tup [.str "a"]) = K4 at h4 y4 ⊢
    refine ⟨(by show 1 ≤ sizeLine; decide), fun q5 n5 => ?_⟩
    have y5 := same_new (o := .tup [.str "all"]) n5
    obtain ⟨h5, t5⟩ := h4.lay (.tup [.str "all"]) n5
    have f5 : H0 q5 = none := c4.free (h4.1.free n5)
    have z5 := z4.upd (o := .tup [.str "all"]) f5
    have v5 := same_new (o := .tup [.str "all"]) (z4.1.free (h4.1.free n5))
    have c5 := c4.trans t5
    have a5 : Da (upd Z4 q5 (.tup [.str "all"])) (.ref q5) (.tuple [.str "all"]) := .tup upd_same (.cons (.str _) .nil)
    generalize upd Z4 q5 (.tup [.str "all"]) = Z5 at z5 v5 a5
    generalize upd G4 q5 (.tup [.str "all"]) = G5 at h5 t5 z5 c5
    generalize upd K4 q5 (.tup [.str "all"]) = K5 at h5 y5 ⊢
    refine ⟨(by show 1 ≤ sizeLine; decide), fun q6 n6 => ?_⟩
    have y6 := same_new (o := .tup [.str "not"]) n6
    obtain ⟨h6, t6⟩ := h5.lay (.tup [.str "not"]) n6
    have f6 : H0 q6 = none := c5.free (h5.1.free n6)
    have z6 := z5.upd (o := .tup [.str "not"]) f6
    have v6 := same_new (o := .tup [.str "not"]) (z5.1.free (h5.1.free n6))
    have c6 := c5.trans t6
    have a6 : Da (upd Z5 q6 (.tup [.str "not"])) (.ref q6) (.tuple [.str "not"]) := .tup upd_same (.cons (.str _) .nil)
    generalize upd Z5 q6 (.tup [.str "not"]) = Z6 at z6 v6 a6
    generalize upd G5 q6 (.tup [.str "not"]) = G6 at h6 t6 z6 c6
    generalize upd K5 q6 (.tup [.str "not"]) = K6 at h6 y6 ⊢
    refine ⟨(by show 2 ≤ sizeLine; decide), fun q7 n7 => ?_⟩
    have y7 := same_new (o := .tup [.str "feature", .str "a"]) n7
    obtain ⟨h7, t7⟩ := h6.lay (.tup [.str "feature", .str "a"]) n7
    have f7 : H0 q7 = none := c6.free (h6.1.free n7)
    have z7 := z6.upd (o := .tup [.str "feature", .str "a"]) f7
    have v7 := same_new (o := .tup [.str "feature", .str "a"]) (z6.1.free (h6.1.free n7))
    have c7 := c6.trans t7
    have a7 : Da (upd Z6 q7 (.tup [.str "feature", .str "a"])) (.ref q7) (.tuple [.str "feature", .str "a"]) := .tup upd_same (.cons (.str _) (.cons (.str _) .nil))
    generalize upd Z6 q7 (.tup [.str "feature", .str "a"]) = Z7 at z7 v7 a7
    generalize upd G6 q7 (.tup [.str "feature", .str "a"]) = G7 at h7 t7 z7 c7
    generalize upd K6 q7 (.tup [.str "feature", .str "a"]) = K7 at h7 y7 ⊢
    refine ⟨(by show 1 ≤ sizeLine; decide), fun q8 n8 => ?_⟩
    have y8 := same_new (o := .tup [.str "all"]) n8
    obtain ⟨h8, t8⟩ := h7.lay (.tup [.str "all"]) n8
    have f8 : H0 q8 = none := c7.free (h7.1.free n8)
    have z8 := z7.upd (o := .tup [.str "all"]) f8
    have v8 := same_new (o := .tup [.str "all"]) (z7.1.free (h7.1.free n8))
    have c8 := c7.trans t8
    have a8 : Da (upd Z7 q8 (.tup [.str "all"])) (.ref q8) (.tuple [.str "all"]) := .tup upd_same (.cons (.str _) .nil)
    generalize upd Z7 q8 (.tup [.str "all"]) = Z8 at z8 v8 a8
    generalize upd G7 q8 (.tup [.str "all"]) = G8 at h8 t8 z8 c8
    generalize upd K7 q8 (.tup [.str "all"]) = K8 at h8 y8 ⊢
    refine ⟨(by show 1 ≤ sizeLine; decide), fun q9 n9 u9 => ?_⟩
    have y9 := same_new (o := .lst [.ref q8]) n9
    obtain ⟨h9, t9⟩ := h8.lay (.lst [.ref q8]) n9
    have f9 : H0 q9 = none := c8.free (h8.1.free n9)
    have z9 := z8.upd (o := .lst [.ref q8]) f9
    have v9 := same_new (o := .lst [.ref q8]) (z8.1.free (h8.1.free n9))
    have c9 := c8.trans t9
    have a9 : Da (upd Z8 q9 (.lst [.ref q8])) (.ref q9) (.list [.tuple [.str "all"]]) := .lst upd_same u9 (.cons (a8.mono v9) .nil)
    generalize upd Z8 q9 (.lst [.ref q8]) = Z9 at z9 v9 a9
    generalize upd G8 q9 (.lst [.ref q8]) = G9 at h9 t9 z9 c9
    generalize upd K8 q9 (.lst [.ref q8]) = K9 at h9 y9 ⊢
    intro q10 n10
    have y10 := same_new (o := .dK []) n10
    obtain ⟨h10, t10⟩ := h9.lay (.dK []) n10
    have z10n : G9 q10 = none := h9.1.free n10
    have f10 : H0 q10 = none := c9.free z10n
    have z10 := z9.upd (o := .dK []) f10
    have zz10 : Z9 q10 = none := z9.1.free z10n
    have v10 := same_new (o := .dK []) zz10
    have c10 := c9.trans t10
    have w10 : upd K9 q10 (.dK []) q10 = some (.dK []) := upd_same
    have p10 : q10 ≠ p := h9.ne n10
    generalize upd Z9 q10 (.dK []) = Z10 at z10 v10
    generalize upd G9 q10 (.dK []) = G10 at h10 t10 z10 c10
    generalize upd K9 q10 (.dK []) = K10 at h10 y10 w10 ⊢
    refine ⟨(by show 0 ≤ sizeLine; decide), fun q11 n11 => ?_⟩
    have y11 := same_new (o := .tup []) n11
    obtain ⟨h11, t11⟩ := h10.lay (.tup []) n11
    have f11 : H0 q11 = none := c10.free (h10.1.free n11)
    have z11 := z10.upd (o := .tup []) f11
    have v11 := same_new (o := .tup []) (z10.1.free (h10.1.free n11))
    have c11 := c10.trans t11
    have a11 : Da (upd Z10 q11 (.tup [])) (.ref q11) (.tuple []) := .tup upd_same .nil
    generalize upd Z10 q11 (.tup []) = Z11 at z11 v11 a11
    generalize upd G10 q11 (.tup []) = G11 at h11 t11 z11 c11
    generalize upd K10 q11 (.tup []) = K11 at h11 y11 ⊢
    refine ⟨y11 _ _ w10, [(.inr "a", .ref q11)], rfl, (by show 1 ≤ 15; decide), ?_⟩
    have h12 := h11.upd (o := .dK (mergeK [] [(.inr "a", .ref q11)])) p10
    have nq : q11 ≠ q10 := fun z => by rw [z] at n11; rw [w10] at n11; cases n11
    have t12 : Same G9 (upd G11 q10 (.dK (mergeK [] [(.inr "a", .ref q11)]))) := fun b o k => by rw [upd_ne (ne_of_none k z10n)]; exact t11 _ _ (t10 _ _ k)
    have z12 := z11.upd (o := .dK (mergeK [] [(.inr "a", .ref q11)])) f10
    have v12 : Same Z9 (upd Z11 q10 (.dK (mergeK [] [(.inr "a", .ref q11)]))) := fun b o k => by rw [upd_ne (ne_of_none k zz10)]; exact v11 _ _ (v10 _ _ k)
    have c12 := c9.trans t12
    have a12 : Da (upd Z11 q10 (.dK (mergeK [] [(.inr "a", .ref q11)]))) (.ref q10) (.dict [(.str "a", .tuple [])]) := Da.dic (kvs := [(.inr "a", .ref q11)]) (ds := [.tuple []]) upd_same (.cons (.tup (by rw [upd_ne nq]; cases a11 with | tup e al => cases al; exact e) .nil) .nil)
    have y12 : Same K9 (upd K11 q10 (.dK (mergeK [] [(.inr "a", .ref q11)]))) := fun b o k => by rw [upd_ne (ne_of_none k n10)]; exact y11 _ _ (y10 _ _ k)
    generalize upd Z11 q10 (.dK (mergeK [] [(.inr "a", .ref q11)])) = Z12 at z12 v12 a12
    generalize upd G11 q10 (.dK (mergeK [] [(.inr "a", .ref q11)])) = G12 at h12 t12 z12 c12
    generalize upd K11 q10 (.dK (mergeK [] [(.inr "a", .ref q11)])) = K12 at h12 y12 ⊢
    refine ⟨(by show 0 ≤ sizeLine; decide), fun q13 n13 => ?_⟩
    have y13 := same_new (o := .tup []) n13
    obtain ⟨h13, t13⟩ := h12.lay (.tup []) n13
    have f13 : H0 q13 = none := c12.free (h12.1.free n13)
    have z13 := z12.upd (o := .tup []) f13
    have v13 := same_new (o := .tup []) (z12.1.free (h12.1.free n13))
    have c13 := c12.trans t13
    have a13 : Da (upd Z12 q13 (.tup [])) (.ref q13) (.tuple []) := .tup upd_same .nil
    generalize upd Z12 q13 (.tup []) = Z13 at z13 v13 a13
    generalize upd G12 q13 (.tup []) = G13 at h13 t13 z13 c13
    generalize upd K12 q13 (.tup []) = K13 at h13 y13 ⊢
    refine ⟨(by show 2 ≤ sizeLine; decide), fun q14 n14 => ?_⟩
    have y14 := same_new (o := .tup [.str "a", .ref q13]) n14
    obtain ⟨h14, t14⟩ := h13.lay (.tup [.str "a", .ref q13]) n14
    have f14 : H0 q14 = none := c13.free (h13.1.free n14)
    have z14 := z13.upd (o := .tup [.str "a", .ref q13]) f14
    have v14 := same_new (o := .tup [.str "a", .ref q13]) (z13.1.free (h13.1.free n14))
    have c14 := c13.trans t14
    have a14 : Da (upd Z13 q14 (.tup [.str "a", .ref q13])) (.ref q14) (.tuple [.str "a", .tuple []]) := .tup upd_same (.cons (.str _) (.cons (a13.mono v14) .nil))
    generalize upd Z13 q14 (.tup [.str "a", .ref q13]) = Z14 at z14 v14 a14
    generalize upd G13 q14 (.tup [.str "a", .ref q13]) = G14 at h14 t14 z14 c14
    generalize upd K13 q14 (.tup [.str "a", .ref q13]) = K14 at h14 y14 ⊢
    refine ⟨(by show 1 ≤ sizeLine; decide), fun q15 n15 => ?_⟩
    have y15 := same_new (o := .tup [.ref q14]) n15
    obtain ⟨h15, t15⟩ := h14.lay (.tup [.ref q14]) n15
    have f15 : H0 q15 = none := c14.free (h14.1.free n15)
    have z15 := z14.upd (o := .tup [.ref q14]) f15
    have v15 := same_new (o := .tup [.ref q14]) (z14.1.free (h14.1.free n15))
    have c15 := c14.trans t15
    have a15 : Da (upd Z14 q15 (.tup [.ref q14])) (.ref q15) (.tuple [.tuple [.str "a", .tuple []]]) := .tup upd_same (.cons (a14.mono v15) .nil)
    generalize upd Z14 q15 (.tup [.ref q14]) = Z15 at z15 v15 a15
    generalize upd G14 q15 (.tup [.ref q14]) = G15 at h15 t15 z15 c15
    generalize upd K14 q15 (.tup [.ref q14]) = K15 at h15 y15 ⊢
    refine ⟨(by show 10 ≤ sizeLine; decide), fun l2 m2 => ?_⟩
    have x1' := (y1.trans (y2.trans (y3.trans (y4.trans (y5.trans (y6.trans (y7.trans (y8.trans (y9.trans (y12.trans (y13.trans (y14.trans y15)))))))))))) _ _ x1
    have n12 : l1 ≠ l2 := ne_of_none x1' m2
    refine ⟨l1, l2, _, _, rfl, rfl, (by rw [upd_ne n12]; exact x1'), upd_same, (by show 16 + 10 ≤ sizeLine; decide), fun l n3 => ?_⟩
    have h16 := h15.same (same_new (o := .lst [.ref q1, .ref q2, .ref q3, .ref q4, .ref q5, .ref q6, .ref q7, .ref q9, .ref q10, .ref q15]) m2)
    generalize upd K15 l2 (.lst [.ref q1, .ref q2, .ref q3, .ref q4, .ref q5, .ref q6, .ref q7, .ref q9, .ref q10, .ref q15]) = K16 at h16 n3 ⊢
    obtain ⟨h17, t17⟩ := h16.lay (.lst [.non, .bl true, .bl false, .int 0, .int 1, .int (-1), .int 99, .int 100, .int (10 ^ (30 : Int).toNat), .str "", .str "a", .str "A", .str "longname", .str "toolongname", .str "a1", .str "a b", .ref q1, .ref q2, .ref q3, .ref q4, .ref q5, .ref q6, .ref q7, .ref q9, .ref q10, .ref q15]) n3
    have all : ∀ v ∈ [V.non, .bl true, .bl false, .int 0, .int 1, .int (-1), .int 99, .int 100, .int (10 ^ (30 : Int).toNat), .str "", .str "a", .str "A", .str "longname", .str "toolongname", .str "a1", .str "a b", .ref q1, .ref q2, .ref q3, .ref q4, .ref q5, .ref q6, .ref q7, .ref q9, .ref q10, .ref q15], Dat Z15 v := by
      intro v hv
      simp only [List.mem_cons, List.not_mem_nil, or_false] at hv
      rcases hv with rfl | rfl | rfl | rfl | rfl | rfl | rfl | rfl | rfl | rfl | rfl | rfl | rfl | rfl | rfl | rfl | rfl | rfl | rfl | rfl | rfl | rfl | rfl | rfl | rfl | rfl
      · exact dat_non
      · exact dat_bl _
      · exact dat_bl _
      · exact dat_int _ (by decide +kernel) (by decide +kernel)
      · exact dat_int _ (by decide +kernel) (by decide +kernel)
      · exact dat_int _ (by decide +kernel) (by decide +kernel)
      · exact dat_int _ (by decide +kernel) (by decide +kernel)
      · exact dat_int _ (by decide +kernel) (by decide +kernel)
      · exact dat_int _ (by decide +kernel) (by decide +kernel)
      · exact dat_str _ (by decide +kernel)
      · exact dat_str _ (by decide +kernel)
      · exact dat_str _ (by decide +kernel)
      · exact dat_str _ (by decide +kernel)
      · exact dat_str _ (by decide +kernel)
      · exact dat_str _ (by decide +kernel)
      · exact dat_str _ (by decide +kernel)
      · exact ⟨_, a1.mono (v2.trans (v3.trans (v4.trans (v5.trans (v6.trans (v7.trans (v8.trans (v9.trans (v12.trans (v13.trans (v14.trans (v15)))))))))))), by decide +kernel, by decide +kernel, by decide +kernel⟩
      · exact ⟨_, a2.mono (v3.trans (v4.trans (v5.trans (v6.trans (v7.trans (v8.trans (v9.trans (v12.trans (v13.trans (v14.trans (v15))))))))))), by decide +kernel, by decide +kernel, by decide +kernel⟩
      · exact ⟨_, a3.mono (v4.trans (v5.trans (v6.trans (v7.trans (v8.trans (v9.trans (v12.trans (v13.trans (v14.trans (v15)))))))))), by decide +kernel, by decide +kernel, by decide +kernel⟩
      · exact ⟨_, a4.mono (v5.trans (v6.trans (v7.trans (v8.trans (v9.trans (v12.trans (v13.trans (v14.trans (v15))))))))), by decide +kernel, by decide +kernel, by decide +kernel⟩
      · exact ⟨_, a5.mono (v6.trans (v7.trans (v8.trans (v9.trans (v12.trans (v13.trans (v14.trans (v15)))))))), by decide +kernel, by decide +kernel, by decide +kernel⟩
      · exact ⟨_, a6.mono (v7.trans (v8.trans (v9.trans (v12.trans (v13.trans (v14.trans (v15))))))), by decide +kernel, by decide +kernel, by decide +kernel⟩
      · exact ⟨_, a7.mono (v8.trans (v9.trans (v12.trans (v13.trans (v14.trans (v15)))))), by decide +kernel, by decide +kernel, by decide +kernel⟩
      · exact ⟨_, a9.mono (v12.trans (v13.trans (v14.trans (v15)))), by decide +kernel, by decide +kernel, by decide +kernel⟩
      · exact ⟨_, a12.mono (v13.trans (v14.trans (v15))), by decide +kernel, by decide +kernel, by decide +kernel⟩
      · exact ⟨_, a15, by decide +kernel, by decide +kernel, by decide +kernel⟩
    refine ⟨_, rfl, _, rfl, _, p, l, n, _, rfl, SqL.of upd_same, (by simp), (by show 26 ≤ 1000000; decide), (by omega), h17, fun HA v hv hA => ?_⟩
    obtain ⟨d, da, ds⟩ := all v hv
    have sA := c15.trans t17
    have zA := z15.same t17
    clear all hv x1 x1' h17 t17 h16 n3 m2 n12
    generalize upd G15 l (.lst [.non, .bl true, .bl false, .int 0, .int 1, .int (-1), .int 99, .int 100, .int (10 ^ (30 : Int).toNat), .str "", .str "a", .str "A", .str "longname", .str "toolongname", .str "a1", .str "a b", .ref q1, .ref q2, .ref q3, .ref q4, .ref q5, .ref q6, .ref q7, .ref q9, .ref q10, .ref q15]) = GA at hA sA zA
    -- how often
    refine ⟨_, rfl, (by show 6 ≤ sizeLine; decide), fun lB nB => ?_⟩
    refine ⟨upd GA lB _, p, lB, n + 1, _, rfl, SqL.of upd_same, (by simp), (by show 6 ≤ 1000000; decide), (by omega), hA.upd (hA.ne nB), fun HB j hj hB => ?_⟩
    obtain ⟨i, rfl, i0, i1⟩ : ∃ i : Int, j = .int i ∧ 0 ≤ i ∧ i ≤ 20 := by
      simp only [List.mem_cons, List.not_mem_nil, or_false] at hj
      rcases hj with rfl | rfl | rfl | rfl | rfl | rfl
      all_goals exact ⟨_, rfl, by decide, by decide⟩
    have sB := sA.trans (same_new (o := .lst [.int 0, .int 0, .int 0, .int 1, .int 3, .int 20]) (hA.1.free nB))
    have zB := zA.same (same_new (o := .lst [.int 0, .int 0, .int 0, .int 1, .int 3, .int 20]) (hA.1.free nB))
    refine ⟨i, rfl, (by omega), (by omega), for_range (n := i.toNat) (fun k σ Hc => ∃ (H1 Z : Hp) (v : V) (d : PyData) (t : Option V), σ = [some (.ref p), some (.ref l), some v, t] ∧ Same H0 H1 ∧ Hand H1 Hc p (n + 2 + k) ∧ Zed H0 Z H1 ∧ Da Z v d ∧ Shows d (60 + 30 * k) (4 + k))
      ⟨_, Z15, v, d, none, rfl, sB, hB, zB, da, ds⟩ ?_ ?_⟩
    · rintro k σ Hc hk ⟨H1, Z, v, d, t, rfl, s1, hc, zz, dv, sd⟩
      refine ⟨_, rfl, _, rfl, (by show 1 ≤ sizeLine; decide), fun r1 m1 => ?_⟩
      have c1 := hc.upd (o := .tup [v]) (hc.ne m1)
      have e1 : Same H1 (upd H1 r1 (.tup [v])) := same_new (hc.1.free m1)
      have f1 : H0 r1 = none := s1.free (hc.1.free m1)
      have k1 := zz.upd (o := .tup [v]) f1
      have j1 := same_new (o := .tup [v]) (zz.1.free (hc.1.free m1))
      have b1 : Da (upd Z r1 (.tup [v])) (.ref r1) (.tuple [d]) := .tup upd_same (.cons (dv.mono j1) .nil)
      generalize upd Z r1 (.tup [v]) = J1 at k1 j1 b1
      generalize upd H1 r1 (.tup [v]) = K1 at c1 e1 k1
      refine ⟨_, rfl, (by show 1 ≤ sizeLine; decide), fun r2 m2 u2 => ?_⟩
      have c2 := c1.upd (o := .lst [v]) (c1.ne m2)
      have e2 : Same K1 (upd K1 r2 (.lst [v])) := same_new (c1.1.free m2)
      have f2 : H0 r2 = none := (s1.trans e1).free (c1.1.free m2)
      have k2 := k1.upd (o := .lst [v]) f2
      have j2 := same_new (o := .lst [v]) (k1.1.free (c1.1.free m2))
      have b2 : Da (upd J1 r2 (.lst [v])) (.ref r2) (.list [d]) := .lst upd_same u2 (.cons (dv.mono (j1.trans j2)) .nil)
      generalize upd J1 r2 (.lst [v]) = J2 at k2 j2 b2
      generalize upd K1 r2 (.lst [v]) = K2 at c2 e2 k2
      intro r3 m3
      have c3 := (c2.upd (o := .dK []) (c2.ne m3)).upd (o := .dK (mergeK [] [(.inr "a", v)])) (c2.ne m3)
      have e3 : Same K2 (upd (upd K2 r3 (.dK [])) r3 (.dK (mergeK [] [(.inr "a", v)]))) := same_two (c2.1.free m3)
      have f3 : H0 r3 = none := (s1.trans (e1.trans e2)).free (c2.1.free m3)
      have k3 := (k2.upd (o := .dK []) f3).upd (o := .dK (mergeK [] [(.inr "a", v)])) f3
      have j3 : Same J2 (upd (upd J2 r3 (.dK [])) r3 (.dK (mergeK [] [(.inr "a", v)]))) := same_two (k2.1.free (c2.1.free m3))
      have b3 : Da (upd (upd J2 r3 (.dK [])) r3 (.dK (mergeK [] [(.inr "a", v)]))) (.ref r3) (.dict [(.str "a", d)]) :=
        Da.dic (kvs := [(.inr "a", v)]) (ds := [d]) upd_same (.cons (dv.mono (j1.trans (j2.trans j3))) .nil)
      refine ⟨_, rfl, upd_same, [(.inr "a", v)], rfl, (by show 1 ≤ 15; decide), ?_⟩
      generalize upd (upd J2 r3 (.dK [])) r3 (.dK (mergeK [] [(.inr "a", v)])) = J3 at k3 j3 b3
      generalize upd (upd K2 r3 (.dK [])) r3 (.dK (mergeK [] [(.inr "a", v)])) = K3 at c3 e3 k3
      refine ⟨(by show 3 ≤ sizeLine; decide), fun l3 m5 => ?_⟩
      refine ⟨upd K3 l3 _, p, l3, n + 2 + k, _, rfl, SqL.of upd_same, (by simp), (by show 3 ≤ 1000000; decide), (by omega), c3.upd (c3.ne m5), fun HC v' hv' hC => ?_⟩
      have e5 : Same K3 (upd K3 l3 (.lst [.ref r1, .ref r2, .ref r3])) := same_new (c3.1.free m5)
      have fin : ∃ d', Da J3 v' d' ∧ Shows d' (60 + 30 * (k + 1)) (4 + (k + 1)) := by
        simp only [List.mem_cons, List.not_mem_nil, or_false] at hv'
        rcases hv' with rfl | rfl | rfl
        · exact ⟨_, b1.mono (j2.trans j3), (Shows.tup (.cons sd (.nil _))).more (by omega) (by omega)⟩
        · exact ⟨_, b2.mono j3, (Shows.lst (.cons sd (.nil _))).more (by omega) (by omega)⟩
        · exact ⟨_, b3, (Shows.dic1 (by decide +kernel) sd).more (by omega) (by omega)⟩
      obtain ⟨d', x1, x2⟩ := fin
      exact ⟨_, J3, v', d', _, rfl, s1.trans (e1.trans (e2.trans (e3.trans e5))), hC, k3.same e5, x1, x2⟩
    · rintro σ Hc ⟨H1, Z, v, d, t, rfl, s1, hc, zz, dv, sd⟩
      exact ⟨_, rfl, q H1 Hc v d s1 (hc.mono (by omega)) Z zz dv (sd.more (by omega) (by omega))⟩
end
end L2.Fu
/-! ## The law's own look at anything -/
namespace L2.Fu
open PySem PySem.Spec PyProof.Rows
def rEqT0 (K : PySem.W.Frag) : R2 := fun x y H Q => ∃ (a b : Addr) (xs : List V), x = .ref a ∧ y = .ref b ∧ SqT K H a xs ∧ SqT K H b [] ∧ Q (.bl xs.isEmpty) H
theorem op_eqT0 {X : Cx} (hu : X.A.units + 1 < cLine) : OpR X (compareOp .Eq) (rEqT0 X.K) := by
  intro pins s σ H x y v u Q I rx ry h
  obtain ⟨a, b, xs, rfl, rfl, ha, hb, q⟩ := h
  cases rx
  cases ry
  obtain ⟨its, r1, p1, _⟩ := I.tuple ha
  obtain ⟨its2, r2, p2, _⟩ := I.tuple hb
  cases r2
  refine SeqAt.eq_tupleAt (e := fun _ => true) p1 p2 (Nat.lt_of_succ_lt hu) (fun j h1 h2 => absurd h2 (Nat.not_lt_zero j)) ⟨.bl _, H, I, rfl, ?_⟩
  have e : ((List.range (min its.toArray.size ([] : List Value).toArray.size)).all (fun _ => true) && its.toArray.size == ([] : List Value).toArray.size) = xs.isEmpty := by
    cases r1 with
    | nil => rfl
    | cons _ _ =>
      simp
  rw [e]
  exact q
theorem sum_cast (g : PyData → Nat) : ∀ ds : List PyData, (((ds.map g).sum : Nat) : Int) = (ds.map fun x => ((g x : Nat) : Int)).sum
  | [] => rfl
  | d :: ds => by simp only [List.map_cons, List.sum_cons, Int.natCast_add, sum_cast g ds]
def tBadNot : TT := fun σ H Q => ∃ (a : Addr) (wd : Str) (us : List V), σ[0]? = some (some (.ref a)) ∧ H a = some (.tup (.str wd :: us)) ∧ Q (decide (wd = "not") && decide (us.length ≠ 1)) H
def spCount (n : Nat) : Sp := fun vs H Q _ => ∃ (v : V) (d : PyData) (k : Nat), vs = [v, .int ((k : Nat) : Int)] ∧ Da H v d ∧ Fits d ∧ k ≤ 11 ∧ 12 ≤ k + n ∧ ∀ H' : Hp, Same H H' → Q (.int ((countN (11 - k) d : Nat) : Int)) H'
section
variable {P : Program} {w : World} {K : PySem.W.Frag} {mg : Str → Option Value} {base : Heap}
theorem scLName : FnScope ["_law_thing", "_law_sign"] ["_law_thing"] (defScope sLName) := ⟨rfl, rfl, rfl, by decide +kernel, rfl, by decide +kernel, by decide +kernel⟩
theorem ok_lname {f : Addr} {fd : FuncData} (F : Fun K "_law_is_name" "_law_is_name" sLName f fd) (zIs : mg "isinstance" = none) (zStr : mg "str" = none) (zLen : mg "len" = none) (zAll : mg "all" = none) : FnOk P w K mg base CX0 1 f fd ["_law_thing"] spName := by
  refine F.ok scLName (fun vs H Q E h => ?_) (fun cdv A outer s H vs Q E hr h => ?_)
  · obtain ⟨v, d, rfl, _⟩ := h
    rfl
  · obtain ⟨v, d, rfl, dv, ft, q⟩ := h
    refine ⟨_, pss_cons (ps_if (PW.pt (pw_or (pt_not (pt_val (pe_callB call_isS (by rfl) zIs boot_isinstance (pa_cons (pv 0) (pa_cons (pe_bltn (v := .ty "str") rfl zStr (by decide +kernel) rfl) pa_nil)))))
        (pw_or1 (pt_not (pt_chain op_lt op_lt pe_int (pe_callB call_len_str (by rfl) zLen PySem.boot_len (pa_cons (pv 0) pa_nil)) pe_int))))) (pss_one (ps_ret pe_bl)) pss_nil)
      (pss_one (ps_ret (pe_callB (cr_all rfl) (by rfl) zAll PyProof.Rows.boot_all (pa_cons
        (pe_lc (own := [("_law_sign", 1)]) (g := gName 1) (tt := tYes) (te := tOp (fun x y H Q => ∃ (c : Nat) (z : Str), x = .str ⟨#[c]⟩ ∧ y = .str z ∧ Q (.bl (decide (c ∈ z.cps.toList))) H) (tVar 1) (tC (.str letters))) rfl scLName.nd (pi_str (pv 0)) (blkOk_by (N := ["_law_thing", "_law_sign"]) (sc := defScope sLName) (by decide +kernel)) (fun _ _ _ _ _ => pg_name (i := 1) scLName.nd rfl (Or.inl rfl)) (fun _ _ _ _ _ => pts_nil)
          (fun _ _ _ _ _ => pe_cmpR op_in_sign (pv 1) pe_str (by with_unfolding_all rfl))) pa_nil)))), ?_⟩
    refine ⟨_, rfl, v, d, rfl, dv, _, rfl, ?_⟩
    have no : isS d = false → nameD d = false := by cases d <;> intro h <;> first | rfl | cases h
    cases hs : isS d with
    | false =>
      have qq := q H (Same.refl _)
      rw [no hs] at qq
      exact iteT qq
    | true =>
      obtain ⟨x, rfl⟩ : ∃ x, d = .str x := by cases d <;> first | exact ⟨_, rfl⟩ | cases hs
      cases dv
      have lx := ft.text
      refine iteF ⟨_, rfl, x, rfl, size_room lx, _, _, rfl, rfl, _, rfl, ?_⟩
      by_cases h1 : 1 ≤ x.length
      · rw [decide_eq_true (show (0 : Int) < (x.length : Int) by omega)]
        refine iteT ⟨_, _, rfl, rfl, _, rfl, ?_⟩
        by_cases h8 : x.length ≤ 8
        · rw [decide_eq_true (show (x.length : Int) < 9 by omega)]
          have e : nameD (.str x) = allIn x := by
            show (decide (1 ≤ x.length) && decide (x.length ≤ 8) && allIn x) = _
            rw [decide_eq_true h1, decide_eq_true h8]
            rfl
          rw [e] at q
          refine iteF ⟨_, rfl, x, rfl, fun D nD => ?_⟩
          refine lc_str (fun i Hc => Same H Hc ∧ Hc D = some (.lst (((x.cps.toList.take i).map fun c => decide (c ∈ letters.cps.toList)).map V.bl))) ⟨same_new nD, upd_same⟩ ?_ ?_
          · rintro i c Hc hc ⟨sc, ec⟩
            have hc' : x.cps.toList[i]? = some c := by rw [Array.getElem?_toList]; exact hc
            have tk : x.cps.toList.take (i + 1) = x.cps.toList.take i ++ [c] := by rw [List.take_add_one, hc']; rfl
            refine ⟨rfl, _, rfl, c, letters, rfl, rfl, _, ec, ?_, fun b o kb => ?_, ?_⟩
            · rw [List.length_map, List.length_map, List.length_take]
              exact Nat.lt_of_le_of_lt (show min i x.cps.toList.length ≤ 8 by rw [Array.length_toList]; have := dec_len x; omega) (by decide)
            · rw [upd_ne (ne_of_none kb nD)]
              exact sc _ _ kb
            · rw [upd_same, tk, List.map_append, List.map_append]
              rfl
          · rintro Hc ⟨sc, ec⟩
            rw [← Array.length_toList, List.take_length] at ec
            exact ⟨D, _, rfl, SqL.of ec, q Hc sc⟩
        · rw [decide_eq_false (show ¬ (x.length : Int) < 9 by omega)]
          have e : nameD (.str x) = false := by
            show (decide (1 ≤ x.length) && decide (x.length ≤ 8) && allIn x) = _
            rw [decide_eq_false h8, Bool.and_false, Bool.false_and]
          rw [e] at q
          exact iteT (q H (Same.refl _))
      · rw [decide_eq_false (show ¬ (0 : Int) < (x.length : Int) by omega)]
        have e : nameD (.str x) = false := by
          show (decide (1 ≤ x.length) && decide (x.length ≤ 8) && allIn x) = _
          rw [decide_eq_false h1, Bool.false_and, Bool.false_and]
        rw [e] at q
        exact iteF ⟨_, rfl, iteT (q H (Same.refl _))⟩
abbrev nCount : List Str := ["_law_thing", "_law_depth", "_law_part"]
theorem scCount : FnScope nCount ["_law_thing", "_law_depth"] (defScope sCount) := ⟨rfl, rfl, rfl, by decide +kernel, rfl, by decide +kernel, by decide +kernel⟩
theorem count_step {n : Nat} {f fN : Addr} {fd fdN : FuncData} (F : Fun K "_law_count" "_law_count" sCount f fd) (GC : FnOk P w K mg base CX0 (n + 1) f fd ["_law_thing", "_law_depth"] (spCount n)) (mC : mg "_law_count" = some (.ref f)) (kC : PySem.W.keepIn K (.ref f) = true) (bC : Binds K fd ["_law_thing", "_law_depth"] [])
    (GN : FnOk P w K mg base CX0 1 fN fdN ["_law_thing"] spName) (mN : mg "_law_is_name" = some (.ref fN)) (kN : PySem.W.keepIn K (.ref fN) = true) (bN : Binds K fdN ["_law_thing"] [])
    (zIs : mg "isinstance" = none) (zStr : mg "str" = none) (zLen : mg "len" = none) (zTup : mg "tuple" = none) (zSum : mg "sum" = none) : FnOk P w K mg base CX0 (n + 2) f fd ["_law_thing", "_law_depth"] (spCount (n + 1)) := by
  refine F.ok scCount (fun vs H Q E h => ?_) (fun cdv A outer s H vs Q E hr h => ?_)
  · obtain ⟨v, d, k, rfl, _⟩ := h
    rfl
  · obtain ⟨v, d, k, rfl, dv, ft, k11, kn, q⟩ := h
    have hr1 := hr.mono (show 1 ≤ n + 1 by omega)
    have hu := hu_of hr
    refine ⟨_, pss_cons (ps_if (PW.pt (pw_or (pt_not (pt_val (pe_callB call_isT (by rfl) zIs boot_isinstance (pa_cons (pv 0) (pa_cons (pe_bltn (v := .ty "tuple") rfl zTup (by decide +kernel) rfl) pa_nil)))))
        (pw_or (pt_cmpR (op_eqT0 hu) (pv 0) (pe_tup pa_nil) (nomark _)) (pw_or (pt_not (pt_val (pe_callB call_isS (by rfl) zIs boot_isinstance (pa_cons (pe_ix ix_tup (pv 0) pe_int (fun _ _ => rfl)) (pa_cons (pe_bltn (v := .ty "str") rfl zStr (by decide +kernel) rfl) pa_nil)))))
          (pw_or1 (pt_cmpR op_gt (pv 1) pe_int (nomark _))))))) (pss_one (ps_ret (pe_op op_pow pe_int pe_int))) pss_nil)
      (pss_cons (ps_if (pt_cmpR op_eq (pe_ix ix_tup (pv 0) pe_int (fun _ _ => rfl)) pe_str (nomark _))
        (pss_one (ps_ret (pe_ifExp (PW.pt (pw_and (pt_cmpR op_eq (pe_callB call_len_seq (by rfl) zLen PySem.boot_len (pa_cons (pv 0) pa_nil)) pe_int (nomark _)) (pw_and1 (pt_val (pe_call GN hr1 rfl mN kN bN .nil pass0 (pa_cons (pe_ix ix_tup (pv 0) pe_int (fun _ _ => rfl)) pa_nil)))))) pe_int (pe_op op_pow pe_int pe_int)))) pss_nil)
      (pss_cons (ps_if (PW.pt (pw_or (pt_cmpR op_notIn_seq (pe_ix ix_tup (pv 0) pe_int (fun _ _ => rfl)) (pe_tup (pa_cons pe_str (pa_cons pe_str (pa_cons pe_str pa_nil)))) (by with_unfolding_all rfl))
        (pw_or1 (pt_imp tBadNot (PW.pt (pw_and (pt_cmpR op_eq (pe_ix ix_tup (pv 0) pe_int (fun _ _ => rfl)) pe_str (nomark _)) (pw_and1 (pt_cmpR op_ne (pe_callB call_len_seq (by rfl) zLen PySem.boot_len (pa_cons (pv 0) pa_nil)) pe_int (nomark _))))) ?bn)))) (pss_one (ps_ret (pe_op op_pow pe_int pe_int))) pss_nil)
      (pss_one (ps_ret (pe_op op_add pe_int (pe_callB (cr_sum rfl) (by rfl) zSum (by decide +kernel) (pa_cons
        (pe_lc (own := [("_law_part", 2)]) (g := gName 2) (tt := tYes) (te := tCall (spCount n) [] E0 (tCons (tVar 2) (tCons (tOp (rI0 fun i j => .int (i + j)) (tVar 1) (tC (.int 1))) tNil))) rfl scCount.nd (pi_tup (pe_slice sl_tup (pv 0) (po_some pe_int) po_none)) (blkOk_by (N := nCount) (sc := defScope sCount) (by decide +kernel)) (fun _ _ _ _ _ => pg_name (i := 2) scCount.nd rfl (Or.inl rfl)) (fun _ _ _ _ _ => pts_nil)
          (fun _ _ _ _ _ => pe_call GC hr rfl mC kC bC .nil pass0 (pa_cons (pv 2) (pa_cons (pe_op op_add (pv 1) pe_int) pa_nil)))) pa_nil))))))), ?_⟩
    case bn =>
      rintro σ H1 Q1 ⟨a, wd, us, e0, e, hq⟩
      refine ⟨_, e0, a, _, _, _, rfl, rfl, SqT.of e, at_zero _ _, rfl, _, rfl, ?_⟩
      by_cases z : wd = "not"
      · subst z
        rw [decide_eq_true rfl] at hq ⊢
        refine iteT ⟨_, e0, a, _, rfl, .inr (SqT.of e), rfl, _, rfl, ?_⟩
        by_cases l : us.length = 1
        · rw [decide_eq_false (fun t => t l)] at hq
          rw [List.length_cons, l]
          exact hq
        · rw [decide_eq_true l] at hq
          rw [decide_eq_false (fun t => l (by have := V.int.inj t; rw [List.length_cons] at this; omega))]
          exact hq
      · rw [decide_eq_false z] at hq
        rw [decide_eq_false (fun t => z (V.str.inj t))]
        exact iteF hq
    have t4 : ((10 : Int) ^ (4 : Int).toNat) = ((10000 : Nat) : Int) := by decide
    have q4 : ∀ H', Same H H' → countN (11 - k) d = 10000 → Q (.int ((10 : Int) ^ (4 : Int).toNat)) H' := fun H' s' e => by
      have := q H' s'
      rw [e] at this
      rw [t4]
      exact this
    have bad : outerD d = false → countN (11 - k) d = 10000 := fun ho => by
      cases 11 - k with
      | zero => rfl
      | succ m =>
        simp only [countN]
        rw [ho, if_neg (by decide)]
    have p4 : (10 : Int) ≠ 0 ∧ True := ⟨by decide, trivial⟩
    refine ⟨_, rfl, v, d, rfl, dv, _, rfl, ?_⟩
    cases ht : isT d with
    | false =>
      have no : outerD d = false := by cases d <;> first | rfl | cases ht
      exact iteT ⟨_, _, rfl, rfl, ⟨by decide, by decide, by decide⟩, q4 H (Same.refl _) (bad no)⟩
    | true =>
      obtain ⟨ds, rfl⟩ : ∃ ds, d = .tuple ds := by cases d <;> first | exact ⟨_, rfl⟩ | cases ht
      obtain ⟨a, us, rfl, e, all⟩ : ∃ a us, v = .ref a ∧ H a = some (.tup us) ∧ DaAll H us ds := by cases dv with | tup e all => exact ⟨_, _, rfl, e, all⟩
      refine iteF ⟨_, rfl, Nat.zero_le _, fun t nt => ?_⟩
      have s1 := same_new (o := .tup []) nt
      have et : upd H t (.tup []) t = some (.tup []) := upd_same
      generalize upd H t (.tup []) = H1 at s1 et
      have e1 := s1 _ _ e
      refine ⟨a, t, us, rfl, rfl, SqT.of e1, SqT.of et, _, rfl, ?_⟩
      cases all with
      | nil => exact iteT ⟨_, _, rfl, rfl, ⟨by decide, by decide, by decide⟩, q4 H1 s1 (bad rfl)⟩
      | @cons u us x ds du all =>
        refine iteF ⟨_, rfl, a, _, _, _, rfl, rfl, SqT.of e1, at_zero _ _, u, x, rfl, du.mono s1, _, rfl, ?_⟩
        have lu := all.length
        cases hs : isS x with
        | false =>
          have no : outerD (.tuple (x :: ds)) = false := by cases x <;> first | rfl | cases hs
          exact iteT ⟨_, _, rfl, rfl, ⟨by decide, by decide, by decide⟩, q4 H1 s1 (bad no)⟩
        | true =>
          obtain ⟨wd, rfl⟩ : ∃ y, x = .str y := by cases x <;> first | exact ⟨_, rfl⟩ | cases hs
          cases du
          refine iteF ⟨_, rfl, _, _, rfl, rfl, _, rfl, ite2 (fun hd => ?_) (fun hd => ?_)⟩
          · have h10 : (10 : Int) < (k : Int) := of_decide_eq_true hd
            exact ⟨_, _, rfl, rfl, ⟨by decide, by decide, by decide⟩, q4 H1 s1 (by rw [show 11 - k = 0 by omega]; rfl)⟩
          · have h10 : ¬ (10 : Int) < (k : Int) := of_decide_eq_false (Bool.eq_false_iff.mpr hd)
            obtain ⟨m, em⟩ : ∃ m, 11 - k = m + 1 := ⟨10 - k, by omega⟩
            have em2 : 11 - (k + 1) = m := by omega
            have good : outerD (.tuple (.str wd :: ds)) = true → countN (11 - k) (.tuple (.str wd :: ds)) = 1 + ((partsD (.tuple (.str wd :: ds))).map (countN m)).sum := fun ho => by
              rw [em]
              simp only [countN]
              rw [ho, if_pos rfl]
            have oe : outerD (.tuple (.str wd :: ds)) = if wd = "feature" then (decide (ds.length = 1) && nameD (ds.headD .none)) else if wd = "not" then decide (ds.length = 1) else decide (wd = "all") || decide (wd = "any") := rfl
            have l2 : (decide (V.int (((V.str wd :: us).length : Nat) : Int) = V.int 2)) = decide (ds.length = 1) := by
              rw [List.length_cons, lu]
              by_cases z : ds.length = 1
              · rw [decide_eq_true z, decide_eq_true (by rw [z]; rfl)]
              · rw [decide_eq_false z, decide_eq_false (fun t => by have := V.int.inj t; omega)]
            refine ⟨_, rfl, a, _, _, _, rfl, rfl, SqT.of e1, at_zero _ _, rfl, _, rfl, ?_⟩
            by_cases hf : wd = "feature"
            · subst hf
              rw [decide_eq_true rfl]
              rw [if_pos rfl] at oe
              refine iteT ⟨_, rfl, a, _, rfl, .inr (SqT.of e1), rfl, _, rfl, ?_⟩
              rw [l2]
              by_cases z : ds.length = 1
              · rw [decide_eq_true z] at oe ⊢
                obtain ⟨y, rfl⟩ : ∃ y, ds = [y] := by
                  match ds, z with
                  | [y], _ => exact ⟨y, rfl⟩
                cases all with
                | @cons u2 us2 _ _ dy t2 =>
                  have fy : Fits y := ft.item (List.mem_cons_of_mem _ List.mem_cons_self)
                  refine iteT ⟨_, rfl, a, _, _, _, rfl, rfl, SqT.of e1, at_one _ _ _, u2, y, rfl, dy.mono s1, fy, fun H2 s2 => ⟨_, rfl, ?_⟩⟩
                  cases hn : nameD y with
                  | true =>
                    have ho : outerD (.tuple [.str "feature", y]) = true := by rw [oe]; exact hn
                    have := q H2 (s1.trans s2)
                    rw [good ho] at this
                    exact iteT this
                  | false =>
                    have ho : outerD (.tuple [.str "feature", y]) = false := by rw [oe]; exact hn
                    exact iteF ⟨_, _, rfl, rfl, ⟨by decide, by decide, by decide⟩, q4 H2 (s1.trans s2) (bad ho)⟩
              · rw [decide_eq_false z] at oe ⊢
                exact iteF ⟨_, _, rfl, rfl, ⟨by decide, by decide, by decide⟩, q4 H1 s1 (bad oe)⟩
            · rw [decide_eq_false (fun z => hf (V.str.inj z))]
              rw [if_neg hf] at oe
              refine iteF ⟨_, rfl, a, _, _, _, rfl, rfl, SqT.of e1, at_zero _ _, (by show 3 ≤ sizeLine; decide), fun t2 n2 => ?_⟩
              have s2 := same_new (o := .tup [.str "not", .str "all", .str "any"]) n2
              have et2 : upd H1 t2 (.tup [.str "not", .str "all", .str "any"]) t2 = some (.tup [.str "not", .str "all", .str "any"]) := upd_same
              generalize upd H1 t2 (.tup [.str "not", .str "all", .str "any"]) = H2 at s2 et2
              have e2 := s2 _ _ e1
              have S2 := s1.trans s2
              refine ⟨t2, [.str "not", .str "all", .str "any"], rfl, .inr (SqT.of et2), rfl, rfl, _, rfl, ?_⟩
              have e3 : inV (.str wd) [.str "not", .str "all", .str "any"] = decide (wd ∈ (["not", "all", "any"] : List Str)) := in_texts wd ["not", "all", "any"]
              show if (!inV (.str wd) [.str "not", .str "all", .str "any"]) = true then _ else _
              rw [e3]
              by_cases hm : wd ∈ (["not", "all", "any"] : List Str)
              · rw [decide_eq_true hm]
                refine iteF ⟨a, wd, us, rfl, e2, ?_⟩
                have ho : outerD (.tuple (.str wd :: ds)) = !(decide (wd = "not") && decide (us.length ≠ 1)) := by
                  rw [oe, lu]
                  by_cases z : wd = "not"
                  · rw [if_pos z, decide_eq_true z]
                    by_cases l : ds.length = 1
                    · rw [decide_eq_true l, decide_eq_false (fun t => t l)]
                      rfl
                    · rw [decide_eq_false l, decide_eq_true l]
                      rfl
                  · rw [if_neg z, decide_eq_false z]
                    simp only [List.mem_cons, List.not_mem_nil, or_false] at hm
                    rcases hm with h | rfl | rfl
                    · exact absurd h z
                    · rfl
                    · rfl
                cases hb : (decide (wd = "not") && decide (us.length ≠ 1)) with
                | true =>
                  rw [hb] at ho
                  exact iteT ⟨_, _, rfl, rfl, ⟨by decide, by decide, by decide⟩, q4 H2 S2 (bad ho)⟩
                | false =>
                  rw [hb] at ho
                  have pe : partsD (.tuple (.str wd :: ds)) = ds := by simp only [partsD, if_neg hf]
                  have gd := good ho
                  rw [pe] at gd
                  refine iteF ⟨_, rfl, _, rfl, a, _, rfl, SqT.of e2, cut_not _ _, fun p1 n1 => ?_⟩
                  rw [cut_one]
                  have s3 := same_new (o := .tup us) n1
                  have e3' : upd H2 p1 (.tup us) p1 = some (.tup us) := upd_same
                  generalize upd H2 p1 (.tup us) = H3 at s3 e3'
                  have S3 := S2.trans s3
                  refine ⟨p1, rfl, ⟨us, SqT.of e3'⟩, fun D nD => ?_⟩
                  refine lc_tup (xs := us) (fun i Hc => Same H3 Hc ∧ Hc D = some (.lst (((ds.take i).map fun x => ((countN m x : Nat) : Int)).map V.int))) ⟨same_new nD, upd_same⟩ (fun i Hc _ h => SqT.of (h.1 _ _ e3')) ?_ ?_
                  · rintro i x Hc hx ⟨sc, eD⟩
                    obtain ⟨dx, hdx, dax⟩ := all.get hx
                    have mem : dx ∈ ds := List.mem_of_getElem? hdx
                    have tk : ds.take (i + 1) = ds.take i ++ [dx] := by rw [List.take_add_one, hdx]; rfl
                    refine ⟨rfl, _, rfl, _, rfl, _, _, rfl, rfl, x, dx, k + 1, ?_, dax.mono (S3.trans sc), ft.item (List.mem_cons_of_mem _ mem), by omega, by omega, fun H4 s4 => ?_⟩
                    · show [x, V.int (((k : Nat) : Int) + 1)] = [x, V.int (((k + 1 : Nat)) : Int)]
                      rw [Int.natCast_add]
                      rfl
                    · rw [em2]
                      refine ⟨_, s4 _ _ eD, ?_, fun b o kb => ?_, ?_⟩
                      · rw [List.length_map, List.length_map, List.length_take]
                        have lf := ft.few
                        rw [List.length_cons] at lf
                        exact Nat.lt_of_lt_of_le (show min i ds.length < 16000000 by omega) (by rw [sizeLine_eq]; decide)
                      · rw [upd_ne (ne_of_none kb nD)]
                        exact s4 _ _ (sc _ _ kb)
                      · rw [upd_same, tk, List.map_append, List.map_append]
                        rfl
                  · rintro Hc ⟨sc, eD⟩
                    rw [lu, List.take_length] at eD
                    refine ⟨D, _, rfl, SqL.of eD, _, _, rfl, rfl, ?_⟩
                    have := q Hc (S3.trans sc)
                    rw [gd] at this
                    have es : ((1 + (ds.map (countN m)).sum : Nat) : Int) = 1 + (ds.map fun x => ((countN m x : Nat) : Int)).sum := by
                      rw [Int.natCast_add, sum_cast]
                      rfl
                    rw [es] at this
                    exact this
              · rw [decide_eq_false hm]
                have ho : outerD (.tuple (.str wd :: ds)) = false := by
                  rw [oe, if_neg (fun z => hm (by rw [z]; decide)), decide_eq_false (fun z => hm (by rw [z]; decide)), decide_eq_false (fun z => hm (by rw [z]; decide))]
                  rfl
                exact iteT ⟨_, _, rfl, rfl, ⟨by decide, by decide, by decide⟩, q4 H2 S2 (bad ho)⟩
theorem ok_count {f fN : Addr} {fd fdN : FuncData} (F : Fun K "_law_count" "_law_count" sCount f fd) (mC : mg "_law_count" = some (.ref f)) (kC : PySem.W.keepIn K (.ref f) = true) (bC : Binds K fd ["_law_thing", "_law_depth"] [])
    (GN : FnOk P w K mg base CX0 1 fN fdN ["_law_thing"] spName) (mN : mg "_law_is_name" = some (.ref fN)) (kN : PySem.W.keepIn K (.ref fN) = true) (bN : Binds K fdN ["_law_thing"] [])
    (zIs : mg "isinstance" = none) (zStr : mg "str" = none) (zLen : mg "len" = none) (zTup : mg "tuple" = none) (zSum : mg "sum" = none) : ∀ n, FnOk P w K mg base CX0 (n + 1) f fd ["_law_thing", "_law_depth"] (spCount n)
  | 0 => by
    have no : ∀ vs H Q E, ¬ spCount 0 vs H Q E := fun vs H Q E h => by
      obtain ⟨_, _, k, _, _, _, k11, kn, _⟩ := h
      omega
    exact ⟨fun vs H Q E h => absurd h (no vs H Q E), fun A outer s H args us vs Q E _ _ _ _ h => absurd h (no vs H Q E)⟩
  | n + 1 => count_step F (ok_count F mC kC bC GN mN kN bN zIs zStr zLen zTup zSum n) mC kC bC GN mN kN bN zIs zStr zLen zTup zSum
end
end L2.Fu
/-! ## Tuples: turned round, cut, joined -/
namespace HT
open PySem PySem.Spec PyProof.Rows L2
section
variable {prog : Program} {w : World} {A : Around} {E : Value → Shared → Prop} {s : Shared}
theorem fm_congr {α β : Type} {f g : α → Option β} : ∀ {l : List α}, (∀ x ∈ l, f x = g x) → l.filterMap f = l.filterMap g
  | [], _ => rfl
  | a :: l, h => by
    rw [List.filterMap_cons, List.filterMap_cons, h a List.mem_cons_self, fm_congr fun x hx => h x (List.mem_cons_of_mem _ hx)]
theorem adjust_rev (n : Nat) : Builtin.Slice.sliceAdjust none none (-1) (n : Int) = ((n : Int) - 1, -1) := by
  unfold Builtin.Slice.sliceAdjust
  rfl
theorem places_rev (n : Nat) : Builtin.Slice.slicePlaces ((n : Int) - 1) (-1) (-1) = n := by
  unfold Builtin.Slice.slicePlaces
  have h1 : ¬ ((-1 : Int) > 0) := by decide
  simp only [h1, if_false]
  split
  · rw [show (- -1 : Int) = 1 by decide, Int.ediv_one]
    omega
  · omega
theorem pick_rev (xs : Array Value) : ((List.range xs.size).filterMap fun (m : Nat) => xs[(((xs.size : Int) - 1) + (m : Int) * (-1)).toNat]?).toArray = xs.toList.reverse.toArray := by
  have e : (List.range xs.size).filterMap (fun (m : Nat) => xs[(((xs.size : Int) - 1) + (m : Int) * (-1)).toNat]?) = ((List.range xs.size).map fun k => xs.size - 1 - k).filterMap (xs[·]?) := by
    rw [List.filterMap_map]
    refine fm_congr fun m hm => ?_
    have lm := List.mem_range.mp hm
    have : (((xs.size : Int) - 1) + (m : Int) * (-1)).toNat = xs.size - 1 - m := by omega
    show xs[(((xs.size : Int) - 1) + (m : Int) * (-1)).toNat]? = xs[xs.size - 1 - m]?
    rw [this]
  rw [e, PySem.W.krv_range, List.filterMap_reverse, PySem.W.krv_all]
theorem sliceApplied_rev {sl : Addr} {vl vu vs : Value} {n : Nat} {Q : Int × Int × Nat → Shared → Prop} (hs : s.heap.IsSliceOf sl vl vu vs) (pl : IsPart vl none) (pu : IsPart vu none) (ps : IsPart vs (some (-1)))
    (h : Q ((n : Int) - 1, -1, n) s) : wpAny (model prog w) A (Builtin.Slice.sliceApplied (.ref sl) (pure (n : Int))) Q E s := by
  obtain ⟨os, hos, hcs, hds⟩ := id hs
  unfold Builtin.Slice.sliceApplied Builtin.Slice.sliceFields
  refine wpAny_bind (wpAny_bind (wpAny_field hos hds (x := vl) rfl (wpAny_bind (wpAny_field hos hds (x := vu) rfl (wpAny_bind (wpAny_field hos hds (x := vs) rfl (wpAny_pure ?_)))))))
  refine wpAny_bind (slicePart_ ps ?_)
  show wpAny _ _ (if ((-1 : Int) == 0) = true then _ else _) _ _ s
  rw [if_neg (by decide)]
  refine wpAny_bind (slicePart_ pl (wpAny_bind (slicePart_ pu (wpAny_bind (wpAny_pure ?_)))))
  show wpAny _ _ (match Builtin.Slice.sliceAdjust none none (-1) (n : Int) with | (lo, hi) => pure (lo, (-1 : Int), Builtin.Slice.slicePlaces lo hi (-1))) _ _ s
  rw [adjust_rev n]
  show wpAny _ _ (pure ((n : Int) - 1, (-1 : Int), Builtin.Slice.slicePlaces ((n : Int) - 1) (-1) (-1))) _ _ s
  rw [places_rev]
  exact wpAny_pure h
theorem getItem_tuple_rev {t sl : Addr} {items : Array Value} {vl vu vs : Value} {Q : Value → Shared → Prop} (ht : IsTup s.heap t items) (hs : s.heap.IsSliceOf sl vl vu vs) (pl : IsPart vl none) (pu : IsPart vu none) (ps : IsPart vs (some (-1)))
    (h : Q (.ref s.heap.objs.size) { s with heap := s.heap.push { cls := .type "tuple", data := .seq items.toList.reverse.toArray } })
    (hsz : items.size ≤ sizeLine) : wpAny (model prog w) A (getItem (.ref t) (.ref sl)) Q E s := by
  have htake : sizeOk (.seq items.toList.reverse.toArray) := by
    show items.toList.reverse.toArray.size ≤ sizeLine
    rw [List.size_toArray, List.length_reverse, Array.length_toList]
    exact hsz
  obtain ⟨os, hos, hcs, hds⟩ := id hs
  have hTs : s.TypeIs (.ref sl) "slice" := ⟨os, hos, hcs⟩
  unfold getItem
  try with_reducible refine wpAny_holding ?_
  first | refine wpAny_bind (wpAny_pure ?_) | skip
  refine wpAny_bind (wpAny_sequenceKey ht.typeIs (by decide) ?_)
  refine wpAny_bind (wpAny_callSpecial?_slot (name := Str.ofString "__getitem__") ht.typeIs PyProof.Rows.slot_tuple_getitem
    (wpAny_call_entry PyProof.Rows.slot_tuple_getitem ht.typeIs entry_tuple_getitem ?_ (args_tuple_getitem _ _)))
  show wpAny _ _ (Builtin.Tuple.tupleItemsOf (.ref t) >>= _) _ _ s
  refine wpAny_bind (tupleItemsOf_ ht ?_)
  refine wpAny_bind (wpAny_typeOf hTs ?_)
  rw [if_pos (by decide)]
  refine wpAny_bind (sliceApplied_rev hs pl pu ps ?_)
  have hno : ¬ ((((items.size : Int) - 1) == 0 && (-1 : Int) == 1 && items.size == items.size) = true) := by
    intro q
    rw [Bool.and_eq_true, Bool.and_eq_true] at q
    exact absurd q.1.2 (by decide)
  show wpAny _ _ (if (((items.size : Int) - 1) == 0 && (-1 : Int) == 1 && items.size == items.size) = true then _ else _) _ _ s
  rw [if_neg hno, pick_rev]
  first
    | exact wpAny_bind (m := Builtin.Tuple.tupleExact _) (wpAny_newObj_type (wpAny_pure ⟨_, rfl, wpAny_pure h⟩) htake)
    | exact wpAny_bind (m := Builtin.Tuple.tupleExact _) (wpAny_newObj_type (wpAny_bind (wpAny_pure (wpAny_pure ⟨_, rfl, wpAny_pure h⟩))) htake)
    | exact wpAny_bind (wpAny_bind (m := Builtin.Tuple.tupleExact _) (wpAny_newObj_type (wpAny_pure (wpAny_pure ⟨_, rfl, wpAny_pure h⟩)) htake))
    | exact wpAny_bind (wpAny_bind (m := Builtin.Tuple.tupleExact _) (wpAny_newObj_type (wpAny_pure ⟨_, rfl, wpAny_pure h⟩) htake))
end
end HT
namespace L2.Fu
open PySem PySem.Spec PyProof.Rows
section
variable {X : Cx}
/-- t[::-1], t a tuple -/
def tRevT (K : PySem.W.Frag) (te : TE) : TE := fun σ H Q => te σ H fun x H1 => ∃ a xs, x = .ref a ∧ SqT K H1 a xs ∧ ∀ p, H1 p = none → Q (.ref p) (upd H1 p (.tup xs.reverse))
theorem pe_revT {e : Expr} {te : TE} {k : Nat} {p1 p2 p3 pos : Pos} (he : PE X e te) : PE X (.Subscript e (.Slice none none (some (.UnaryOp .USub (.Constant (.int 1) k p1) p2)) p3) pos) (tRevT X.K te) := by
  refine ⟨fun pins s σ H Q I h => ?_⟩
  refine Subscript_ (thn (he.run pins s σ H _ I h) fun v s1 ⟨x, H1, I1, r1, q1⟩ => ?_)
  obtain ⟨a, xs, ex, hx, q⟩ := q1
  subst ex
  cases r1
  have hst : PO X (some (.UnaryOp .USub (.Constant (.int 1) k p1) p2)) (tPart (tUn (rU fun i => .int (-i)) (tC (.int 1)))) := po_some (pe_un un_neg pe_int)
  refine wpAny_Slice (thn (po_none.run pins s1 σ H1 (fun o H2 => o = none ∧ H2 = H1) I1 ⟨rfl, rfl⟩) fun vl s2 ⟨l, H2, I2, pl, el, e2⟩ => ?_)
  subst el e2
  refine thn (po_none.run pins s2 σ H2 (fun o H3 => o = none ∧ H3 = H2) I2 ⟨rfl, rfl⟩) fun vu s3 ⟨u, H3, I3, pu, eu, e3⟩ => ?_
  subst eu e3
  refine thn (hst.run pins s3 σ H3 (fun o H4 => o = some (-1) ∧ H4 = H3) I3 ⟨1, rfl, -1, rfl, rfl, rfl⟩) fun vs s4 ⟨o, H4, I4, ps, eo, e4⟩ => ?_
  subst eo e4
  have I5 : Inv X pins σ H4 { s4 with heap := s4.heap.push { cls := .type "slice", data := .fields #[vl, vu, vs] } } := I4.kept (t' := s4.toks) fun b ob q => Heap.get?_push_of_some _ q
  obtain ⟨its, r, ht, hz⟩ := I5.tuple hx
  have hlen := r.length
  show wpAny (model X.prog X.w) X.A (subscriptTail e (.Slice none none (some (.UnaryOp .USub (.Constant (.int 1) k p1) p2)) p3) (.ref a) (.ref s4.heap.objs.size)) (EP X pins σ Q) X.xe { s4 with heap := s4.heap.push { cls := .type "slice", data := .fields #[vl, vu, vs] } }
  refine tail_any (ops := [.ref a, .ref s4.heap.objs.size]) ht.typeIs (PyProof.Rows.slot_tuple_getitem.lookup) ?_ (by with_unfolding_all rfl)
  refine HT.getItem_tuple_rev ht (Heap.IsSliceOf.new _ vl vu vs) pl pu ps ?_ (by rw [List.size_toArray]; omega)
  refine ⟨.ref _, _, I5.laid (t' := s4.toks) (o := .tup xs.reverse) (fun b ob q => Heap.get?_push_of_some _ q) (Nat.le_refl _) ?_, rfl, q _ (I5.hok.fresh (Nat.le_refl _))⟩
  exact ⟨by rw [List.length_reverse]; exact hz, _, r.reverse, IsTup.new _ _⟩
/-- t[lo:hi], a tuple with its items -/
def rSlN : V → Option Int → Option Int → Hp → VK → Prop := fun x lo hi H Q => ∃ a xs, x = .ref a ∧ H a = some (.tup xs) ∧ ∀ (H' : Hp) (q : Addr), Same H H' → H' q = some (.tup (cutV xs lo hi)) → Q (.ref q) H'
theorem cut_whole {xs : List V} {lo hi : Option Int} (h : HT.sIx xs.length 0 lo = 0 ∧ HT.sIx xs.length xs.length hi = xs.length) : cutV xs lo hi = xs := by
  unfold cutV
  rw [h.1, h.2, List.drop_zero, Nat.sub_zero, List.take_length]
theorem sl_N : SlR X rSlN := by
  intro pins s σ H x v vl vu lo hi sl Q I rx hs pl pu h
  obtain ⟨a, xs, rfl, hx, q⟩ := h
  refine sl_tupA pins s σ H _ v vl vu lo hi sl Q I rx hs pl pu ⟨a, xs, rfl, SqT.of hx, fun hw => ?_, fun _ p np => q _ p (same_new np) upd_same⟩
  exact q H a (Same.refl _) (by rw [cut_whole hw]; exact hx)
/-- t + u, a tuple with the items of both -/
def rCatN : R2 := fun x y H Q => ∃ a b xs ys, x = .ref a ∧ y = .ref b ∧ H a = some (.tup xs) ∧ H b = some (.tup ys) ∧ xs.length + ys.length ≤ sizeLine ∧ ∀ (H' : Hp) (q : Addr), Same H H' → H' q = some (.tup (xs ++ ys)) → Q (.ref q) H'
theorem op_catN : OpR X (binaryOp .Add) rCatN := by
  intro pins s σ H x y v u Q I rx ry h
  obtain ⟨a, b, xs, ys, rfl, rfl, ha, hb, hz, q⟩ := h
  refine op_catA pins s σ H _ _ v u Q I rx ry ⟨a, b, xs, ys, rfl, rfl, SqT.of ha, SqT.of hb, hz, fun e => ?_, fun _ e => ?_, fun _ _ p np => q _ p (same_new np) upd_same⟩
  · exact q H b (Same.refl _) (by rw [e, List.nil_append]; exact hb)
  · exact q H a (Same.refl _) (by rw [e, List.append_nil]; exact ha)
end
theorem cut_to (xs : List V) (k : Nat) : cutV xs none (some ((k : Nat) : Int)) = xs.take k := by
  unfold cutV
  rw [HT.sIx_none, HT.sIx_nat, List.drop_zero, Nat.sub_zero]
  by_cases h : k ≤ xs.length
  · rw [Nat.min_eq_left h]
  · rw [Nat.min_eq_right (by omega), List.take_length, List.take_of_length_le (by omega)]
theorem cut_from (xs : List V) (k : Nat) : cutV xs (some ((k : Nat) : Int)) none = xs.drop k := by
  unfold cutV
  rw [HT.sIx_none, HT.sIx_nat]
  by_cases h : k ≤ xs.length
  · rw [Nat.min_eq_left h, List.take_of_length_le (by rw [List.length_drop]; omega)]
  · rw [Nat.min_eq_right (by omega), List.drop_length, List.drop_eq_nil_of_le (by omega), List.take_nil]
theorem cut_last (xs : List V) : cutV xs (some (-1)) none = xs.drop (xs.length - 1) := by
  unfold cutV
  rw [HT.sIx_none]
  have e : HT.sIx xs.length 0 (some (-1)) = xs.length - 1 := by
    show (if (-1 : Int) < 0 then ((-1 : Int) + (xs.length : Int)).toNat else min (-1 : Int).toNat xs.length) = _
    rw [if_pos (by decide)]
    omega
  rw [e, List.take_of_length_le (by rw [List.length_drop]; omega)]
theorem cut_init (xs : List V) : cutV xs none (some (-1)) = xs.take (xs.length - 1) := by
  unfold cutV
  rw [HT.sIx_none, List.drop_zero, Nat.sub_zero]
  have e : HT.sIx xs.length xs.length (some (-1)) = xs.length - 1 := by
    show (if (-1 : Int) < 0 then ((-1 : Int) + (xs.length : Int)).toNat else min (-1 : Int).toNat xs.length) = _
    rw [if_pos (by decide)]
    omega
  rw [e]
theorem DaAll.reverse {H : Hp} : ∀ {vs : List V} {ds : List PyData}, DaAll H vs ds → DaAll H vs.reverse ds.reverse
  | _, _, .nil => .nil
  | _, _, .cons a t => by
    rw [List.reverse_cons, List.reverse_cons]
    exact (DaAll.reverse t).append (.cons a .nil)
/-! how long -/
theorem ShowsAll.split {d : PyData} {ds : List PyData} {n k : Nat} (h : ShowsAll (d :: ds) n k) : ∃ n1 n2, n1 + 2 + n2 ≤ n ∧ Shows d n1 k ∧ ShowsAll ds n2 k := by
  have c := h.can
  simp only [PyData.showableAll, Bool.and_eq_true] at c
  have f := h.few
  simp only [PyData.shownAll, piled_cons] at f
  have g := h.flat
  simp only [PyData.depthAll] at g
  exact ⟨_, _, f, ⟨c.1, Nat.le_refl _, by omega⟩, ⟨c.2, Nat.le_refl _, by omega⟩⟩
theorem ShowsAll.append {k : Nat} : ∀ {as bs : List PyData} {n m : Nat}, ShowsAll as n k → ShowsAll bs m k → ShowsAll (as ++ bs) (n + m) k
  | [], bs, n, m, _, h => h.more (by omega) (Nat.le_refl _)
  | a :: as, bs, n, m, g, h => by
    obtain ⟨n1, n2, l, x, y⟩ := g.split
    exact (ShowsAll.cons x (ShowsAll.append y h)).more (by omega) (Nat.le_refl _)
theorem ShowsAll.parts {k : Nat} : ∀ {as bs : List PyData} {n : Nat}, ShowsAll (as ++ bs) n k → ∃ n1 n2, n1 + n2 ≤ n ∧ ShowsAll as n1 k ∧ ShowsAll bs n2 k
  | [], bs, n, h => ⟨0, n, by omega, .nil k, h⟩
  | a :: as, bs, n, h => by
    obtain ⟨n1, n2, l, x, y⟩ := ShowsAll.split h
    obtain ⟨m1, m2, l2, y1, y2⟩ := ShowsAll.parts y
    exact ⟨n1 + 2 + m1, m2, by omega, ShowsAll.cons x y1, y2⟩
theorem ShowsAll.reverse {k : Nat} : ∀ {as : List PyData} {n : Nat}, ShowsAll as n k → ShowsAll as.reverse n k
  | [], n, h => h
  | a :: as, n, h => by
    obtain ⟨n1, n2, l, x, y⟩ := h.split
    rw [List.reverse_cons]
    exact ((ShowsAll.reverse y).append (ShowsAll.cons x (.nil k))).more (by omega) (Nat.le_refl _)
theorem ShowsAll.take {as : List PyData} {n k : Nat} (i : Nat) (h : ShowsAll as n k) : ShowsAll (as.take i) n k := by
  rw [← List.take_append_drop i as] at h
  obtain ⟨n1, n2, l, x, _⟩ := h.parts
  exact x.more (by omega) (Nat.le_refl _)
theorem ShowsAll.drop {as : List PyData} {n k : Nat} (i : Nat) (h : ShowsAll as n k) : ShowsAll (as.drop i) n k := by
  rw [← List.take_append_drop i as] at h
  obtain ⟨n1, n2, l, _, x⟩ := h.parts
  exact x.more (by omega) (Nat.le_refl _)
end L2.Fu
/-! ## Something otherwise at a drawn depth -/
namespace L2.Fu
open PySem PySem.Spec PyProof.Rows
def rListN (K : PySem.W.Frag) : List V → Hp → VK → Prop := fun xs H Q => ∃ p ys, xs = [V.ref p] ∧ SqT K H p ys ∧ ∀ l, H l = none → l ≠ sysModules → Q (.ref l) (upd H l (.lst ys))
theorem call_listN {X : Cx} : CallR X (.type "list") (rListN X.K) := by
  intro pins s σ H xs us Q I r h
  obtain ⟨p, ys, rfl, hq, q⟩ := h
  obtain ⟨u, rfl, rx⟩ := vals1 r
  cases rx
  obtain ⟨its, r', pl, hz⟩ := I.tuple hq
  have hlen := r'.length
  obtain ⟨o, ho, hc, n, hd⟩ := pl
  refine call_list_seq p (.inr rfl) ho hc hd (fun h' c' kp e => ?_) (by simp only [List.size_toArray] <;> omega)
  exact ⟨.ref s.heap.objs.size, _, I.laid (t' := s.toks) kp (Nat.le_refl _) (show ObjOk X.prog X.w _ h' _ (.lst ys) from ⟨hz, its, c', r', e⟩), rfl, q _ (I.hok.fresh (Nat.le_refl _)) (new_ne I)⟩
theorem ShowsAll.count {ds : List PyData} {n k : Nat} (h : ShowsAll ds n k) : 2 * ds.length ≤ n := by
  have key : ∀ es : List PyData, 2 * es.length ≤ piled (PyData.shownAll es) := by
    intro es
    induction es with
    | nil => exact Nat.zero_le _
    | cons e es ih =>
      simp only [PyData.shownAll, piled_cons, List.length_cons]
      omega
  exact Nat.le_trans (key ds) h.few
/-- the data's own heap has grown from Z to Z1 within H1: of what H0 told beside Z it took tuples alone -/
def Zin (H0 Z Z1 H1 : Hp) : Prop := Same Z Z1 ∧ Same Z1 H1 ∧ ∀ b, H0 b ≠ none → Z b = none → ∀ o, Z1 b = some o → ∃ xs, o = .tup xs
theorem Zin.start {H0 Z H1 : Hp} (a : Same Z H0) (b : Same H0 H1) : Zin H0 Z Z H1 := ⟨Same.refl _, a.trans b, fun _ _ z _ k => by rw [z] at k; cases k⟩
theorem Zin.more {H0 Z Z1 H1 H2 : Hp} (z : Zin H0 Z Z1 H1) (s : Same H1 H2) : Zin H0 Z Z1 H2 := ⟨z.1, z.2.1.trans s, z.2.2⟩
theorem Zin.put {H0 Z Z1 H1 : Hp} {q : Addr} {o : HO} (z : Zin H0 Z Z1 H1) (e : H1 q = some o) (c : H0 q = none ∨ ∃ ys, o = .tup ys) : Zin H0 Z (L2.upd Z1 q o) H1 ∧ Same Z1 (L2.upd Z1 q o) := by
  have sm : Same Z1 (L2.upd Z1 q o) := fun b u k => by
    by_cases h : b = q
    · have k2 := z.2.1 b u k
      rw [h, e] at k2
      cases k2
      rw [h, upd_same]
    · rw [upd_ne h]
      exact k
  refine ⟨⟨z.1.trans sm, fun b u k => ?_, fun b hb zb u k => ?_⟩, sm⟩
  · by_cases h : b = q
    · rw [h, upd_same] at k
      rw [h, e]
      exact k
    · rw [upd_ne h] at k
      exact z.2.1 b u k
  · by_cases h : b = q
    · rw [h, upd_same] at k
      cases k
      rcases c with c | c
      · exact absurd (by rw [h]; exact c) hb
      · exact c
    · rw [upd_ne h] at k
      exact z.2.2 b hb zb u k
/-- with new data beside it -/
theorem Zin.join {H0 Z Z' H1 : Hp} (a : Same Z H0) (b : Same H0 H1) (z : Zed H0 Z' H1) : ∃ Z1, Zin H0 Z Z1 H1 ∧ Same Z' Z1 := by
  refine ⟨fun c => match Z' c with | some o => some o | none => Z c, ⟨fun c o k => ?_, fun c o k => ?_, fun c hc zc o k => ?_⟩, fun c o k => ?_⟩
  · have n := z.2 c (by rw [a c o k]; exact fun t => nomatch t)
    show (match Z' c with | some o => some o | none => Z c) = some o
    rw [n]
    exact k
  · have k' : (match Z' c with | some o => some o | none => Z c) = some o := k
    cases h : Z' c with
    | some u =>
      rw [h] at k'
      cases k'
      exact z.1 c _ h
    | none =>
      rw [h] at k'
      exact b _ _ (a _ _ k')
  · have k' : (match Z' c with | some o => some o | none => Z c) = some o := k
    rw [z.2 c hc, zc] at k'
    cases k'
  · show (match Z' c with | some o => some o | none => Z c) = some o
    rw [k]
/-- _law_bent(hand, thing, depth) -/
def spBent (n : Nat) : Sp := fun vs H Q _ => ∃ (H0 Z : Hp) (p : Addr) (v : V) (d : PyData) (m k L D0 : Nat), vs = [.ref p, v, .int ((k : Nat) : Int)] ∧ k + 1 ≤ n ∧ k ≤ 10 ∧ m + 40 * (k + 1) < 60000000 ∧ Hand H0 H p m ∧ Same Z H0 ∧ Da Z v d ∧ Shows d L D0 ∧ L ≤ 1000000 ∧ D0 ≤ 20 ∧
  ∀ (H1 H' Z1 : Hp) (v' : V) (d' : PyData), Same H0 H1 → Hand H1 H' p (m + 40 * (k + 1)) → Zin H0 Z Z1 H1 → Da Z1 v' d' → Shows d' (2 * L + 1100 + 10 * k) (D0 + 31) → Q v' H'
section
variable {P : Program} {w : World} {K : PySem.W.Frag} {mg : Str → Option Value} {base : Heap}
abbrev nBent : List Str := ["_law_hand_here", "_law_thing", "_law_depth", "_law_at", "_law_way"]
theorem scBent : FnScope nBent ["_law_hand_here", "_law_thing", "_law_depth"] (defScope sBent) := ⟨rfl, rfl, rfl, by decide +kernel, rfl, by decide +kernel, by decide +kernel⟩
/-- whether it goes on inside: a tuple that is not empty, and the depth not yet 0 -/
def tStop : TT := fun σ H Q => ∃ (H0 : Hp) (p : Addr) (v : V) (d : PyData) (m k : Nat), σ[0]? = some (some (.ref p)) ∧ σ[1]? = some (some v) ∧ σ[2]? = some (some (.int ((k : Nat) : Int))) ∧ m < 100000000 ∧ Hand H0 H p m ∧ Da H0 v d ∧
  ∀ (H' : Hp) (b : Bool), Hand H0 H' p (m + 1) → (b = false → k ≠ 0 ∧ ∃ a xs ds, v = .ref a ∧ H0 a = some (.tup xs) ∧ xs ≠ [] ∧ d = .tuple ds ∧ DaAll H0 xs ds) → Q b H'
theorem bent_step {n : Nat} {f fT fO fD : Addr} {fd fdT fdO fdD : FuncData} (F : Fun K "_law_bent" "_law_bent" sBent f fd) (GB : FnOk P w K mg base CX0 (n + 3) f fd ["_law_hand_here", "_law_thing", "_law_depth"] (spBent n)) (mB : mg "_law_bent" = some (.ref f)) (kB : PySem.W.keepIn K (.ref f) = true) (bB : Binds K fd ["_law_hand_here", "_law_thing", "_law_depth"] [])
    (GT : FnOk P w K mg base CX0 1 fT fdT ["_law_hand_here", "_law_many"] spTake) (mT : mg "_law_take" = some (.ref fT)) (kT : PySem.W.keepIn K (.ref fT) = true) (bT : Binds K fdT ["_law_hand_here", "_law_many"] [])
    (GO : FnOk P w K mg base CX0 2 fO fdO [ofN, ofS] (spOf K)) (mO : mg "_law_of" = some (.ref fO)) (kO : PySem.W.keepIn K (.ref fO) = true) (bO : Binds K fdO [ofN, ofS] [])
    (GD : FnOk P w K mg base CX0 3 fD fdD ["_law_hand_here"] spOdd) (mD : mg "_law_odd" = some (.ref fD)) (kD : PySem.W.keepIn K (.ref fD) = true) (bD : Binds K fdD ["_law_hand_here"] [])
    (zIs : mg "isinstance" = none) (zTup : mg "tuple" = none) (zLen : mg "len" = none) (zList : mg "list" = none) : FnOk P w K mg base CX0 (n + 4) f fd ["_law_hand_here", "_law_thing", "_law_depth"] (spBent (n + 1)) := by
  refine F.ok scBent (fun vs H Q E h => ?_) (fun cdv A outer s H vs Q E hr h => ?_)
  · obtain ⟨H0, Z, p, v, d, m, k, L, D0, rfl, _⟩ := h
    rfl
  · obtain ⟨H0, Z, p, v, d, m, k, L, D0, rfl, kn, k10, m5, hh, sZ, dvz, sh, L1, D1, q⟩ := h
    have dv := dvz.mono sZ
    have hr1 := hr.mono (show 1 ≤ n + 3 by omega)
    have hr2 := hr.mono (show 2 ≤ n + 3 by omega)
    have hr3 := hr.mono (show 3 ≤ n + 3 by omega)
    have hu := hu_of hr
    refine ⟨_, pss_cons (ps_if (pt_imp tStop (PW.pt (pw_or (pt_not (pt_val (pe_callB call_isT (by rfl) zIs boot_isinstance (pa_cons (pv 1) (pa_cons (pe_bltn (v := .ty "tuple") rfl zTup (by decide +kernel) rfl) pa_nil)))))
        (pw_or (pt_cmpR (op_eqT0 hu) (pv 1) (pe_tup pa_nil) (nomark _)) (pw_or (pt_cmpR op_eq (pv 2) pe_int (nomark _)) (pw_or1 (pt_cmpR op_eq (pe_call GT hr1 rfl mT kT bT .nil pass0 (pa_cons (pv 0) (pa_cons pe_int pa_nil))) pe_int (nomark _))))))) ?stop)
        (pss_cons (ps_if (PW.pt (pw_or (pt_not (pt_val (pe_callB call_isT (by rfl) zIs boot_isinstance (pa_cons (pv 1) (pa_cons (pe_bltn (v := .ty "tuple") rfl zTup (by decide +kernel) rfl) pa_nil))))) (pw_or1 (pt_cmpR op_eq (pe_call GT hr1 rfl mT kT bT .nil pass0 (pa_cons (pv 0) (pa_cons pe_int pa_nil))) pe_int (nomark _))))) (pss_one (ps_ret (pe_call GD hr3 rfl mD kD bD .nil pass0 (pa_cons (pv 0) pa_nil)))) pss_nil)
        (pss_one (ps_ret (pe_call GO hr2 rfl mO kO bO .nil pass0 (pa_cons (pv 0) (pa_cons (pe_lst (pa_cons (pe_callTy call_listN (by rfl) zList PyProof.Rows.boot_list (pa_cons (pv 1) pa_nil)) (pa_cons (pe_revT (pv 1)) (pa_cons (pe_op op_catN (pv 1) (pe_slice sl_N (pv 1) (po_some (pe_un un_neg pe_int)) po_none)) (pa_cons (pe_slice sl_N (pv 1) po_none (po_some (pe_un un_neg pe_int))) (pa_cons (pe_tup (pa_cons (pv 1) pa_nil)) pa_nil)))))) pa_nil)))))) pss_nil)
      (pss_cons (ps_set (i := 3) scBent.nd rfl (.inl rfl) (pe_call GT hr1 rfl mT kT bT .nil pass0 (pa_cons (pv 0) (pa_cons (pe_callB call_len_seq (by rfl) zLen PySem.boot_len (pa_cons (pv 1) pa_nil)) pa_nil))))
      (pss_cons (ps_set (i := 4) scBent.nd rfl (.inl rfl) (pe_call GT hr1 rfl mT kT bT .nil pass0 (pa_cons (pv 0) (pa_cons pe_int pa_nil))))
      (pss_cons (ps_if (pt_cmpR op_eq (pv 4) pe_int (nomark _)) (pss_one (ps_ret (pe_op op_catN (pe_slice sl_N (pv 1) po_none (po_some (pv 3))) (pe_slice sl_N (pv 1) (po_some (pe_op op_add (pv 3) pe_int)) po_none)))) pss_nil)
      (pss_cons (ps_if (pt_cmpR op_eq (pv 4) pe_int (nomark _)) (pss_one (ps_ret (pe_op op_catN (pe_slice sl_N (pv 1) po_none (po_some (pe_op op_add (pv 3) pe_int))) (pe_slice sl_N (pv 1) (po_some (pv 3)) po_none)))) pss_nil)
      (pss_one (ps_ret (pe_op op_catN (pe_op op_catN (pe_slice sl_N (pv 1) po_none (po_some (pv 3))) (pe_tup (pa_cons (pe_call GB hr rfl mB kB bB .nil pass0 (pa_cons (pv 0) (pa_cons (pe_ix ix_tup (pv 1) (pv 3) (fun _ _ => rfl)) (pa_cons (pe_op op_sub (pv 2) pe_int) pa_nil)))) pa_nil))) (pe_slice sl_N (pv 1) (po_some (pe_op op_add (pv 3) pe_int)) po_none)))))))), ?_⟩
    case stop =>
      rintro σ H1 Q1 ⟨H0, p, v, d, m, k, e0, e1, e2, mm, hh, dv, hq⟩
      refine ⟨_, e1, v, d, rfl, dv.mono hh.1, _, rfl, ?_⟩
      cases ht : isT d with
      | false => exact iteT (hq H1 true (hh.mono (by omega)) nofun)
      | true =>
        obtain ⟨ds, rfl⟩ : ∃ ds, d = .tuple ds := by cases d <;> first | exact ⟨_, rfl⟩ | cases ht
        obtain ⟨a, us, rfl, e, all⟩ : ∃ a us, v = .ref a ∧ H0 a = some (.tup us) ∧ DaAll H0 us ds := by cases dv with | tup e all => exact ⟨_, _, rfl, e, all⟩
        refine iteF ⟨_, e1, Nat.zero_le _, fun t nt => ?_⟩
        have h2 := hh.same (same_new (o := .tup []) nt)
        have et : upd H1 t (.tup []) t = some (.tup []) := upd_same
        generalize upd H1 t (.tup []) = H2 at h2 et
        refine ⟨a, t, us, rfl, rfl, SqT.of (h2.here e), SqT.of et, _, rfl, ?_⟩
        cases us with
        | nil => exact iteT (hq H2 true (h2.mono (by omega)) nofun)
        | cons u us =>
          refine iteF ⟨_, e2, rfl, _, rfl, ?_⟩
          by_cases kz : k = 0
          · rw [decide_eq_true (by rw [kz]; rfl)]
            exact iteT (hq H2 true (h2.mono (by omega)) nofun)
          · rw [decide_eq_false (fun z => kz (by have := V.int.inj z; omega))]
            refine iteF ⟨_, e0, H0, p, m, 5, rfl, by decide, by decide, by omega, h2, fun H3 c c0 c1 h3 => ⟨rfl, _, rfl, ?_⟩⟩
            exact hq H3 _ h3 fun _ => ⟨kz, a, _, ds, rfl, e, List.cons_ne_nil _ _, rfl, all⟩
    have fin : ∀ (B Hf ZB : Hp) (qf : Addr) (ys : List V) (es : List PyData) (c : Nat), Same H0 B → Hand B Hf p c → c ≤ m + 40 * (k + 1) → Hf qf = some (.tup ys) → Zin H0 Z ZB B → DaAll ZB ys es → Shows (.tuple es) (2 * L + 1100 + 10 * k) (D0 + 31) → Q (.ref qf) Hf := by
      intro B Hf ZB qf ys es c sB hB lc eq zB al se
      have sG := same_del hB.1 hB.2.1
      obtain ⟨xp, ep⟩ := hB.at
      have nq : qf ≠ p := fun z => by rw [z, ep] at eq; cases eq
      have eG : delH Hf p qf = some (.tup ys) := by rw [delH_ne nq]; exact eq
      obtain ⟨z2, s2⟩ := (zB.more sG).put eG (.inr ⟨_, rfl⟩)
      exact q (delH Hf p) Hf _ (.ref qf) (.tuple es) (sB.trans sG) (hB.full.mono lc) z2 (.tup upd_same (al.mono s2)) se
    have odd : ∀ (Hx : Hp) (c : Nat), Hand H0 Hx p c → c ≤ m + 3 → tCall spOdd [] E0 (tCons (tVar 0) tNil) [some (.ref p), some v, some (.int ((k : Nat) : Int)), none, none] Hx Q := by
      intro Hx c hx lc
      refine ⟨_, rfl, H0, p, c, rfl, by omega, hx, fun H1 H' v' d' s1 h1 Z' z' dv' sd => ?_⟩
      obtain ⟨Z1, z1, s'⟩ := Zin.join sZ s1 z'
      exact q H1 H' Z1 v' d' s1 (h1.mono (by omega)) z1 (dv'.mono s') (sd.more (by omega) (by omega))
    refine ⟨H0, p, v, d, m, k, rfl, rfl, rfl, by omega, hh, dv, fun Ha b ha hb => ite2 (fun hc => ?_) (fun hc => ?_)⟩
    · refine ⟨_, rfl, v, d, rfl, dv.mono ha.1, _, rfl, ?_⟩
      cases ht : isT d with
      | false => exact iteT (odd Ha _ ha (by omega))
      | true =>
        obtain ⟨ds, rfl⟩ : ∃ ds, d = .tuple ds := by cases d <;> first | exact ⟨_, rfl⟩ | cases ht
        obtain ⟨a, us, rfl, eZ, all⟩ : ∃ a us, v = .ref a ∧ Z a = some (.tup us) ∧ DaAll Z us ds := by cases dvz with | tup e all => exact ⟨_, _, rfl, e, all⟩
        have e := sZ _ _ eZ
        obtain ⟨D', rfl⟩ : ∃ D', D0 = D' + 1 := by
          have g := sh.flat
          simp only [PyData.depth] at g
          exact ⟨D0 - 1, by omega⟩
        have si := sh.items
        refine iteF ⟨_, rfl, H0, p, m + 1, 3, rfl, by decide, by decide, by omega, ha, fun Hb c c0 c1 hb' => ⟨rfl, _, rfl, ite2 (fun hd => odd Hb _ hb' (by omega)) (fun hd => ?_)⟩⟩
        have eb := hb'.here e
        refine ⟨_, rfl, _, rfl, a, us, rfl, SqT.of eb, fun l1 n1 u1 => ?_⟩
        have lp : l1 ≠ p := hb'.ne n1
        have s1 := same_new (o := .lst us) n1
        have x1 : upd Hb l1 (.lst us) l1 = some (.lst us) := upd_same
        generalize upd Hb l1 (.lst us) = K1 at s1 x1
        refine ⟨_, rfl, a, us, rfl, SqT.of (s1 _ _ eb), fun q2 n2 => ?_⟩
        have s2 := same_new (o := .tup us.reverse) n2
        have x2 : upd K1 q2 (.tup us.reverse) q2 = some (.tup us.reverse) := upd_same
        generalize upd K1 q2 (.tup us.reverse) = K2 at s2 x2
        refine ⟨_, rfl, _, rfl, _, rfl, _, rfl, a, us, rfl, (s1.trans s2) _ _ eb, fun K3 q3' s3 x3' => ?_⟩
        rw [cut_last] at x3'
        have few := si.count
        have lu := all.length
        refine ⟨a, q3', us, _, rfl, rfl, (s1.trans (s2.trans s3)) _ _ eb, x3', ?_, fun K4 q3 s4 x3 => ?_⟩
        · rw [List.length_drop]
          exact size_room (by omega)
        refine ⟨_, rfl, _, rfl, _, rfl, a, us, rfl, (s1.trans (s2.trans (s3.trans s4))) _ _ eb, fun K5 q4 s5 x4 => ?_⟩
        rw [cut_init] at x4
        refine ⟨_, rfl, (by show 1 ≤ sizeLine; decide), fun q5 n5 => ?_⟩
        have s6 := same_new (o := .tup [.ref a]) n5
        have x5 : upd K5 q5 (.tup [.ref a]) q5 = some (.tup [.ref a]) := upd_same
        generalize upd K5 q5 (.tup [.ref a]) = K6 at s6 x5
        refine ⟨(by show 5 ≤ sizeLine; decide), fun r nr => ?_⟩
        have s7 := same_new (o := .lst [.ref l1, .ref q2, .ref q3, .ref q4, .ref q5]) nr
        have x6 : upd K6 r (.lst [.ref l1, .ref q2, .ref q3, .ref q4, .ref q5]) r = some (.lst [.ref l1, .ref q2, .ref q3, .ref q4, .ref q5]) := upd_same
        have hK6 : Hand H0 K6 p (m + 2) := hb'.same (s1.trans (s2.trans (s3.trans (s4.trans (s5.trans s6)))))
        have rp : r ≠ p := hK6.ne nr
        have h7 : Hand H0 (upd K6 r (.lst [.ref l1, .ref q2, .ref q3, .ref q4, .ref q5])) p (m + 2) := hK6.same s7
        generalize upd K6 r (.lst [.ref l1, .ref q2, .ref q3, .ref q4, .ref q5]) = K7 at s7 x6 h7
        have y1 := (s2.trans (s3.trans (s4.trans (s5.trans (s6.trans s7))))) _ _ x1
        have y2 := (s3.trans (s4.trans (s5.trans (s6.trans s7)))) _ _ x2
        have y3 := (s5.trans (s6.trans s7)) _ _ x3
        have y4 := (s6.trans s7) _ _ x4
        have y5 := s7 _ _ x5
        have sG := same_del h7.1 h7.2.1
        have hG := h7.full
        obtain ⟨xp, ep⟩ := h7.at
        have off : ∀ b zs, K7 b = some (.tup zs) → delH K7 p b = some (.tup zs) := fun b zs kb => by
          rw [delH_ne (fun z => by rw [z, ep] at kb; cases kb)]
          exact kb
        have zl : H0 l1 = none := hb'.1.free n1
        have zG : Zin H0 Z Z (delH K7 p) := Zin.start sZ sG
        refine ⟨delH K7 p, p, r, m + 2, _, rfl, SqL.of (by rw [delH_ne rp]; exact x6), List.cons_ne_nil _ _, (by show 5 ≤ 1000000; decide), by omega, hG, fun Hz v' hv hz => ?_⟩
        simp only [List.mem_cons, List.not_mem_nil, or_false] at hv
        have hz' := hz.mono (n := m + 40 * (k + 1)) (by omega)
        rcases hv with rfl | rfl | rfl | rfl | rfl
        · obtain ⟨z1, t1⟩ := zG.put (o := .lst us) (by rw [delH_ne lp]; exact y1) (.inl zl)
          exact q _ Hz _ _ (.list ds) sG hz' z1 (.lst upd_same u1 (all.mono t1)) ((Shows.lst si).more (by omega) (by omega))
        · obtain ⟨z1, t1⟩ := zG.put (off _ _ y2) (.inr ⟨_, rfl⟩)
          exact q _ Hz _ _ (.tuple ds.reverse) sG hz' z1 (.tup upd_same (all.mono t1).reverse) ((Shows.tup si.reverse).more (by omega) (by omega))
        · obtain ⟨z1, t1⟩ := zG.put (off _ _ y3) (.inr ⟨_, rfl⟩)
          exact q _ Hz _ _ (.tuple (ds ++ ds.drop (us.length - 1))) sG hz' z1 (.tup upd_same ((all.mono t1).append ((all.mono t1).drop _))) ((Shows.tup (si.append (si.drop _))).more (by omega) (by omega))
        · obtain ⟨z1, t1⟩ := zG.put (off _ _ y4) (.inr ⟨_, rfl⟩)
          exact q _ Hz _ _ (.tuple (ds.take (us.length - 1))) sG hz' z1 (.tup upd_same ((all.mono t1).take _)) ((Shows.tup (si.take _)).more (by omega) (by omega))
        · obtain ⟨z1, t1⟩ := zG.put (off _ _ y5) (.inr ⟨_, rfl⟩)
          exact q _ Hz _ _ (.tuple [.tuple ds]) sG hz' z1 (.tup upd_same (.cons (.tup (t1 _ _ eZ) (all.mono t1)) .nil)) ((Shows.tup (.cons sh (.nil _))).more (by omega) (by omega))
    · obtain ⟨kz, a, us0, ds, rfl, e0, ne0, rfl, _⟩ := hb (Bool.eq_false_iff.mpr hc)
      clear hb hc
      obtain ⟨us, eZ, all⟩ : ∃ us, Z a = some (.tup us) ∧ DaAll Z us ds := by cases dvz with | tup e all => exact ⟨_, e, all⟩
      have e := sZ _ _ eZ
      have ne : us ≠ [] := fun z => by
        rw [e] at e0
        cases e0
        exact ne0 z
      obtain ⟨D', rfl⟩ : ∃ D', D0 = D' + 1 := by
        have g := sh.flat
        simp only [PyData.depth] at g
        exact ⟨D0 - 1, by omega⟩
      have si := sh.items
      have few := si.count
      have lu := all.length
      have pos : 0 < us.length := List.length_pos_iff.mpr ne
      refine ⟨_, rfl, _, rfl, a, us, rfl, .inr (SqT.of (ha.here e)), H0, p, m + 1, (us.length : Int), rfl, by omega, by omega, by omega, ha, fun Hb i i0 i1 hb => ?_⟩
      obtain ⟨j, rfl⟩ := Int.eq_ofNat_of_zero_le i0
      have lj : j < us.length := by omega
      refine ⟨_, rfl, H0, p, m + 2, 8, rfl, by decide, by decide, by omega, hb, fun Hc c c0 c1 hcc => ?_⟩
      have ec := hcc.here e
      have j1 : (((j : Nat) : Int) + 1) = ((j + 1 : Nat) : Int) := by omega
      refine ⟨_, rfl, rfl, _, rfl, ite2 (fun _ => ?_) (fun _ => ?_)⟩
      · refine ⟨_, rfl, _, rfl, _, rfl, a, us, rfl, ec, fun H1 q1 s1 e1 => ?_⟩
        refine ⟨_, rfl, _, rfl, _, _, rfl, rfl, _, rfl, a, us, rfl, s1 _ _ ec, fun H2 q2 s2 e2 => ?_⟩
        rw [cut_to] at e1
        have e2' : H2 q2 = some (.tup (us.drop (j + 1))) := by
          rw [← cut_from us (j + 1), ← j1]
          exact e2
        refine ⟨q1, q2, _, _, rfl, rfl, s2 _ _ e1, e2', ?_, fun H3 q3 s3 e3 => ?_⟩
        · rw [List.length_take, List.length_drop]
          exact size_room (by omega)
        · exact fin H0 H3 Z q3 _ (ds.take j ++ ds.drop (j + 1)) _ (Same.refl _) (hcc.same (s1.trans (s2.trans s3))) (by omega) e3 (Zin.start sZ (Same.refl _)) ((all.take j).append (all.drop (j + 1))) ((Shows.tup ((si.take j).append (si.drop (j + 1)))).more (by omega) (by omega))
      · refine ⟨_, rfl, rfl, _, rfl, ite2 (fun _ => ?_) (fun _ => ?_)⟩
        · refine ⟨_, rfl, _, rfl, _, _, rfl, rfl, _, rfl, a, us, rfl, ec, fun H1 q1 s1 e1 => ?_⟩
          refine ⟨_, rfl, _, rfl, _, rfl, a, us, rfl, s1 _ _ ec, fun H2 q2 s2 e2 => ?_⟩
          have e1' : H1 q1 = some (.tup (us.take (j + 1))) := by
            rw [← cut_to us (j + 1), ← j1]
            exact e1
          rw [cut_from] at e2
          refine ⟨q1, q2, _, _, rfl, rfl, s2 _ _ e1', e2, ?_, fun H3 q3 s3 e3 => ?_⟩
          · rw [List.length_take, List.length_drop]
            exact size_room (by omega)
          · exact fin H0 H3 Z q3 _ (ds.take (j + 1) ++ ds.drop j) _ (Same.refl _) (hcc.same (s1.trans (s2.trans s3))) (by omega) e3 (Zin.start sZ (Same.refl _)) ((all.take (j + 1)).append (all.drop j)) ((Shows.tup ((si.take (j + 1)).append (si.drop j))).more (by omega) (by omega))
        · refine ⟨_, rfl, _, rfl, _, rfl, a, us, rfl, ec, fun H1 q1 s1 e1 => ?_⟩
          rw [cut_to] at e1
          have hj : us[j]? = some us[j] := List.getElem?_eq_getElem lj
          obtain ⟨dj, hdj, daj⟩ := all.get hj
          have ljd : j < ds.length := by omega
          have cut : ds = ds.take j ++ (dj :: ds.drop (j + 1)) := by
            have g := List.getElem?_eq_getElem ljd
            rw [hdj] at g
            cases g
            rw [List.getElem_cons_drop ljd, List.take_append_drop]
          have si2 := si
          rw [cut] at si2
          obtain ⟨n1, n2, ln, sA, sB⟩ := si2.parts
          obtain ⟨n3, n4, ln2, sC, sD⟩ := sB.split
          obtain ⟨k', rfl⟩ : ∃ k', k = k' + 1 := ⟨k - 1, by omega⟩
          have h1 := hcc.same s1
          refine ⟨_, rfl, _, rfl, _, rfl, a, us, _, us[j], rfl, rfl, SqT.of (s1 _ _ ec), atI_nat hj, _, rfl, _, _, rfl, rfl, ?_⟩
          obtain ⟨xp, ep⟩ := h1.at
          have sG := same_del h1.1 h1.2.1
          have nq1 : q1 ≠ p := fun z => by rw [z, ep] at e1; cases e1
          refine ⟨delH H1 p, Z, p, us[j], dj, m + 3, k', n3, D', ?_, by omega, by omega, by omega, h1.full, sZ.trans sG, daj, sC, by omega, by omega, fun B H2 Z1 v' d' s2 h2 zB dv' sd => ?_⟩
          · show [V.ref p, us[j], V.int (((k' + 1 : Nat) : Int) - 1)] = [V.ref p, us[j], V.int ((k' : Nat) : Int)]
            rw [show (((k' + 1 : Nat) : Int) - 1) = ((k' : Nat) : Int) by omega]
          refine ⟨(by show 1 ≤ sizeLine; decide), fun t nt => ?_⟩
          have s3 := same_new (o := .tup [v']) nt
          have et : upd H2 t (.tup [v']) t = some (.tup [v']) := upd_same
          have h3 := h2.same s3
          generalize upd H2 t (.tup [v']) = H3 at s3 et h3
          have e1B : B q1 = some (.tup (us.take j)) := s2 _ _ (by rw [delH_ne nq1]; exact e1)
          have eaB : B a = some (.tup us) := s2 _ _ (sG _ _ e)
          refine ⟨q1, t, _, _, rfl, rfl, h3.here e1B, et, ?_, fun H4 q4 s4 e4 => ?_⟩
          · rw [List.length_take]
            exact size_room (show min j us.length + 1 ≤ 16000000 by omega)
          refine ⟨_, rfl, _, rfl, _, _, rfl, rfl, _, rfl, a, us, rfl, s4 _ _ (h3.here eaB), fun H5 q5 s5 e5 => ?_⟩
          have e5' : H5 q5 = some (.tup (us.drop (j + 1))) := by
            rw [← cut_from us (j + 1), ← j1]
            exact e5
          refine ⟨q4, q5, _, _, rfl, rfl, s5 _ _ e4, e5', ?_, fun H6 q6 s6 e6 => ?_⟩
          · rw [List.length_append, List.length_take, List.length_drop]
            exact size_room (show min j us.length + 1 + (us.length - (j + 1)) ≤ 16000000 by omega)
          have alB := all.mono zB.1
          have zB' : Zin H0 Z Z1 B := ⟨zB.1, zB.2.1, fun b hb zb o k => zB.2.2 b (fun t => hb (sG.free t)) zb o k⟩
          refine fin B H6 Z1 q6 _ (ds.take j ++ [d'] ++ ds.drop (j + 1)) _ (sG.trans s2) (h3.same (s4.trans (s5.trans s6))) (by omega) e6 zB' (((alB.take j).append (.cons dv' .nil)).append (alB.drop (j + 1))) ?_
          have w := ((sA.more (Nat.le_refl _) (show D' ≤ D' + 31 by omega)).append (ShowsAll.cons sd (.nil _))).append (sD.more (Nat.le_refl _) (show D' ≤ D' + 31 by omega))
          exact (Shows.tup w).more (by omega) (by omega)
theorem ok_bent {f fT fO fD : Addr} {fd fdT fdO fdD : FuncData} (F : Fun K "_law_bent" "_law_bent" sBent f fd) (mB : mg "_law_bent" = some (.ref f)) (kB : PySem.W.keepIn K (.ref f) = true) (bB : Binds K fd ["_law_hand_here", "_law_thing", "_law_depth"] [])
    (GT : FnOk P w K mg base CX0 1 fT fdT ["_law_hand_here", "_law_many"] spTake) (mT : mg "_law_take" = some (.ref fT)) (kT : PySem.W.keepIn K (.ref fT) = true) (bT : Binds K fdT ["_law_hand_here", "_law_many"] [])
    (GO : FnOk P w K mg base CX0 2 fO fdO [ofN, ofS] (spOf K)) (mO : mg "_law_of" = some (.ref fO)) (kO : PySem.W.keepIn K (.ref fO) = true) (bO : Binds K fdO [ofN, ofS] [])
    (GD : FnOk P w K mg base CX0 3 fD fdD ["_law_hand_here"] spOdd) (mD : mg "_law_odd" = some (.ref fD)) (kD : PySem.W.keepIn K (.ref fD) = true) (bD : Binds K fdD ["_law_hand_here"] [])
    (zIs : mg "isinstance" = none) (zTup : mg "tuple" = none) (zLen : mg "len" = none) (zList : mg "list" = none) : ∀ n, FnOk P w K mg base CX0 (n + 3) f fd ["_law_hand_here", "_law_thing", "_law_depth"] (spBent n)
  | 0 => by
    have no : ∀ vs H Q E, ¬ spBent 0 vs H Q E := fun vs H Q E h => by
      obtain ⟨_, _, _, _, _, _, k, _, _, _, kn, _⟩ := h
      omega
    exact ⟨fun vs H Q E h => absurd h (no vs H Q E), fun A outer s H args us vs Q E _ _ _ _ h => absurd h (no vs H Q E)⟩
  | n + 1 => bent_step F (ok_bent F mB kB bB GT mT kT bT GO mO kO bO GD mD kD bD zIs zTup zLen zList n) mB kB bB GT mT kT bT GO mO kO bO GD mD kD bD zIs zTup zLen zList
end
end L2.Fu
/-! ## Great formulas -/
namespace L2.Fu
open PySem PySem.Spec PyProof.Rows
/-- all but the hand at p and the list at l -/
def Bs (H : Hp) (p l : Addr) : Hp := delH (delH H p) l
theorem bs_get {H : Hp} {p l b : Addr} {o : HO} (k : Bs H p l b = some o) : b ≠ p ∧ b ≠ l ∧ H b = some o := by
  unfold Bs at k
  by_cases hl : b = l
  · rw [hl, delH_same] at k
    cases k
  · rw [delH_ne hl] at k
    by_cases hp : b = p
    · rw [hp, delH_same] at k
      cases k
    · rw [delH_ne hp] at k
      exact ⟨hp, hl, k⟩
theorem bs_at {H : Hp} {p l b : Addr} {o : HO} (hp : b ≠ p) (hl : b ≠ l) (e : H b = some o) : Bs H p l b = some o := by
  unfold Bs
  rw [delH_ne hl, delH_ne hp]
  exact e
theorem bs_same {H H' : Hp} {p l : Addr} (s : Same (delH H p) H') : Same (Bs H p l) (Bs H' p l) := fun b o k => by
  obtain ⟨hp, hl, e⟩ := bs_get k
  exact bs_at hp hl (s b o (by rw [delH_ne hp]; exact e))
theorem bs_upd {H : Hp} {p l : Addr} {o : HO} : Same (Bs H p l) (Bs (upd H l o) p l) := fun b u k => by
  obtain ⟨hp, hl, e⟩ := bs_get k
  exact bs_at hp hl (by rw [upd_ne hl]; exact e)
theorem bs_sub {H : Hp} {p l : Addr} : Same (Bs H p l) (delH H p) := fun b u k => by
  obtain ⟨hp, hl, e⟩ := bs_get k
  rw [delH_ne hp]
  exact e
/-- under way: the hand, the list of what was found so far, and what else must stay -/
def Gr (H0 : Hp) (p l : Addr) (Fx : Hp → Prop) (Hc : Hp) (c n : Nat) : Prop := l ≠ p ∧ Hand (delH Hc p) Hc p c ∧ Same H0 (Bs Hc p l) ∧ Fx (Bs Hc p l) ∧ ∃ us ds, Hc l = some (.lst us) ∧ us.length = n ∧ DaAll (Bs Hc p l) us ds ∧ ∀ d ∈ ds, Shows d 20000 14
section
variable {H0 : Hp} {p l : Addr} {Fx : Hp → Prop} {Hc H' : Hp} {c c' n : Nat} (mono : ∀ A B, Same A B → Fx A → Fx B)
include mono
theorem Gr.call (g : Gr H0 p l Fx Hc c n) (h : Hand (delH Hc p) H' p c') : Gr H0 p l Fx H' c' n := by
  obtain ⟨lp, hc, s0, fx, us, ds, el, len, al, sh⟩ := g
  have s := bs_same (l := l) h.1
  exact ⟨lp, h.full, s0.trans s, mono _ _ s fx, us, ds, h.1 _ _ (by rw [delH_ne lp]; exact el), len, al.mono s, sh⟩
theorem Gr.same (g : Gr H0 p l Fx Hc c n) (s : Same Hc H') : Gr H0 p l Fx H' c n := by
  obtain ⟨lp, hc, s0, fx, us, ds, el, len, al, sh⟩ := g
  have t := bs_same (p := p) (l := l) (del_sub.trans s)
  exact ⟨lp, (hc.same s).full, s0.trans t, mono _ _ t fx, us, ds, s _ _ el, len, al.mono t, sh⟩
theorem Gr.push {x : V} {d : PyData} (g : Gr H0 p l Fx Hc c n) (dx : Da (Bs Hc p l) x d) (sx : Shows d 20000 14) : ∃ us, Hc l = some (.lst us) ∧ us.length = n ∧ Gr H0 p l Fx (upd Hc l (.lst (us ++ [x]))) c (n + 1) := by
  obtain ⟨lp, hc, s0, fx, us, ds, el, len, al, sh⟩ := g
  refine ⟨us, el, len, lp, (hc.upd lp).full, s0.trans bs_upd, mono _ _ bs_upd fx, us ++ [x], ds ++ [d], upd_same, by rw [List.length_append, len]; rfl, (al.mono bs_upd).append (.cons (dx.mono bs_upd) .nil), fun e he => ?_⟩
  rcases List.mem_append.mp he with he | he
  · exact sh e he
  · rw [List.mem_singleton.mp he]
    exact sx
omit mono
theorem Gr.re {Fy : Hp → Prop} (g : Gr H0 p l Fx Hc c n) (f : Fx (Bs Hc p l) → Fy (Bs Hc p l)) : Gr H0 p l Fy Hc c n := by
  obtain ⟨lp, hc, s0, fx, r⟩ := g
  exact ⟨lp, hc, s0, f fx, r⟩
theorem Gr.hand (g : Gr H0 p l Fx Hc c n) : Hand (delH Hc p) Hc p c := g.2.1
theorem Gr.fx (g : Gr H0 p l Fx Hc c n) : Fx (Bs Hc p l) := g.2.2.2.1
theorem Gr.more (g : Gr H0 p l Fx Hc c n) (h : c ≤ c') : Gr H0 p l Fx Hc c' n := by
  obtain ⟨lp, hc, r⟩ := g
  exact ⟨lp, hc.mono h, r⟩
/-- a new tuple stands in what stays -/
theorem Gr.new {q : Addr} (g : Gr H0 p l Fx Hc c n) (f : Hc q = none) : q ≠ p ∧ q ≠ l := by
  obtain ⟨_, hc, _, _, us, _, el, _⟩ := g
  exact ⟨hc.ne f, fun z => by rw [z, el] at f; cases f⟩
theorem Gr.tup {q : Addr} {ys : List V} (g : Gr H0 p l Fx Hc c n) (e : Hc q = some (.tup ys)) : Bs Hc p l q = some (.tup ys) := by
  obtain ⟨_, hc, _, _, us, _, el, _⟩ := g
  obtain ⟨xp, ep⟩ := hc.at
  exact bs_at (fun z => by rw [z, ep] at e; cases e) (fun z => by rw [z, el] at e; cases e) e
theorem Gr.lst (g : Gr H0 p l Fx Hc c n) : ∃ us, Hc l = some (.lst us) ∧ us.length = n := by
  obtain ⟨_, _, _, _, us, _, el, len, _⟩ := g
  exact ⟨us, el, len⟩
end
theorem shows_rep {d : PyData} {n k : Nat} (h : Shows d n k) : ∀ m : Nat, ShowsAll (List.replicate m d) (m * (n + 2)) k
  | 0 => by rw [Nat.zero_mul]; exact .nil k
  | m + 1 => by
    rw [List.replicate_succ]
    exact (ShowsAll.cons h (shows_rep h m)).more (by rw [Nat.succ_mul]; omega) (Nat.le_refl _)
theorem da_rep {H : Hp} {v : V} {d : PyData} (h : Da H v d) : ∀ m : Nat, DaAll H (List.replicate m v) (List.replicate m d)
  | 0 => .nil
  | m + 1 => .cons h (da_rep h m)
theorem flat_one {α : Type} (x : α) : ∀ m : Nat, (List.replicate m [x]).flatten = List.replicate m x
  | 0 => rfl
  | m + 1 => by rw [List.replicate_succ, List.flatten_cons, flat_one x m, List.replicate_succ]; rfl
def spGreat : Sp := fun vs H Q _ => ∃ (H0 : Hp) (p : Addr) (n : Nat), vs = [.ref p] ∧ n < 50000000 ∧ Hand H0 H p n ∧
  ∀ (H1 H' : Hp) (r : Addr) (us : List V) (ds : List PyData), Same H0 H1 → Hand H1 H' p (n + 60) → H1 r = some (.lst us) → us.length = 7 → DaAll H1 us ds → (∀ d ∈ ds, Shows d 20000 14) → Q (.ref r) H'
section
variable {P : Program} {w : World} {K : PySem.W.Frag} {mg : Str → Option Value} {base : Heap}
abbrev nGreat : List Str := ["_law_hand_here", "_law_found", "_law_leaf", "_law_count_here", "_law_levels", "_law_deep", "_law_turn", "_law_half"]
theorem scGreat : FnScope nGreat ["_law_hand_here"] (defScope sGreat) := ⟨rfl, rfl, rfl, by decide +kernel, rfl, by decide +kernel, by decide +kernel⟩
theorem ok_great {f fT fO : Addr} {fd fdT fdO : FuncData} (F : Fun K "_law_great" "_law_great" sGreat f fd)
    (GT : FnOk P w K mg base CX0 1 fT fdT ["_law_hand_here", "_law_many"] spTake) (mT : mg "_law_take" = some (.ref fT)) (kT : PySem.W.keepIn K (.ref fT) = true) (bT : Binds K fdT ["_law_hand_here", "_law_many"] [])
    (GO : FnOk P w K mg base CX0 2 fO fdO [ofN, ofS] (spOf K)) (mO : mg "_law_of" = some (.ref fO)) (kO : PySem.W.keepIn K (.ref fO) = true) (bO : Binds K fdO [ofN, ofS] [])
    (zRange : mg "range" = none) : FnOk P w K mg base CX0 3 f fd ["_law_hand_here"] spGreat := by
  refine F.ok scGreat (fun vs H Q E h => ?_) (fun cdv A outer s H vs Q E hr h => ?_)
  · obtain ⟨H0, p, n, rfl, _⟩ := h
    rfl
  · obtain ⟨H0, p, n, rfl, hn, hh, q⟩ := h
    have hr1 := hr.mono (show 1 ≤ 2 by decide)
    refine ⟨_, pss_cons (ps_par (i := 1) (j := 2) rfl scGreat.nd rfl rfl (by decide) rfl rfl (pa_cons (pe_lst pa_nil) (pa_cons (pe_tup (pa_cons pe_str (pa_cons (pe_call GO hr rfl mO kO bO .nil pass0 (pa_cons (pv 0) (pa_cons (pe_lst (pa_cons pe_str (pa_cons pe_str pa_nil))) pa_nil))) pa_nil))) pa_nil)) rfl)
      (pss_cons (ps_for PassesOwn.never rfl (pi_tup (pe_tup (pa_cons pe_int (pa_cons pe_int (pa_cons pe_int pa_nil))))) (pg_name (i := 3) scGreat.nd rfl (.inl rfl))
        (pss_one (ps_expr (pe_bm PySem.F.plainAttrs_list PySem.F.slot_list_append PySem.F.type_list_append mt_append (pv 1) (pa_cons
          (pe_op op_catN (pe_tup (pa_cons (pe_call GO hr rfl mO kO bO .nil pass0 (pa_cons (pv 0) (pa_cons (pe_lst (pa_cons pe_str (pa_cons pe_str pa_nil))) pa_nil))) pa_nil)) (pe_op op_repT (pe_tup (pa_cons (pv 2) pa_nil)) (pv 3))) pa_nil)))))
      (pss_cons (ps_for PassesOwn.never rfl (pi_tup (pe_tup (pa_cons pe_int (pa_cons pe_int (pa_cons pe_int pa_nil))))) (pg_name (i := 4) scGreat.nd rfl (.inl rfl))
        (pss_cons (ps_set (i := 5) scGreat.nd rfl (.inl rfl) (pv 2))
        (pss_cons (ps_for PassesOwn.never rfl (pi_range1 (by rfl) zRange (pa_cons (pe_op op_sub (pv 4) pe_int) pa_nil)) (pg_name (i := 6) scGreat.nd rfl (.inl rfl))
          (pss_one (ps_set (i := 5) scGreat.nd rfl (.inl rfl) (pe_call GO hr rfl mO kO bO .nil pass0 (pa_cons (pv 0) (pa_cons (pe_lst (pa_cons (pe_tup (pa_cons pe_str (pa_cons (pv 5) pa_nil))) (pa_cons (pe_tup (pa_cons pe_str (pa_cons (pv 5) pa_nil))) (pa_cons (pe_tup (pa_cons pe_str (pa_cons (pv 5) pa_nil))) (pa_cons (pe_tup (pa_cons pe_str (pa_cons (pv 2) (pa_cons (pv 5) pa_nil)))) pa_nil))))) pa_nil))))))
        (pss_one (ps_expr (pe_bm PySem.F.plainAttrs_list PySem.F.slot_list_append PySem.F.type_list_append mt_append (pv 1) (pa_cons (pv 5) pa_nil)))))))
      (pss_cons (ps_set (i := 7) scGreat.nd rfl (.inl rfl) (pe_op op_add pe_int (pe_call GT hr1 rfl mT kT bT .nil pass0 (pa_cons (pv 0) (pa_cons pe_int pa_nil)))))
      (pss_one (ps_ret (pe_op op_cat (pv 1) (pe_lst (pa_cons (pe_tup (pa_cons pe_str (pa_cons (pe_op op_catN (pe_tup (pa_cons pe_str pa_nil)) (pe_op op_repT (pe_tup (pa_cons (pv 2) pa_nil)) (pv 7))) (pa_cons (pe_op op_catN (pe_tup (pa_cons pe_str pa_nil)) (pe_op op_repT (pe_tup (pa_cons (pv 2) pa_nil)) (pe_op op_sub pe_int (pv 7)))) pa_nil)))) pa_nil)))))))), ?_⟩
    refine ⟨Nat.zero_le _, fun l nl => ?_⟩
    have lp : l ≠ p := hh.ne nl
    have zl : H0 l = none := hh.1.free nl
    obtain ⟨h1, s1⟩ := hh.lay (.lst []) nl
    have x1 : upd H0 l (.lst []) l = some (.lst []) := upd_same
    generalize upd H0 l (.lst []) = G1 at h1 s1 x1
    generalize upd H l (.lst []) = K1 at h1 ⊢
    refine ⟨_, rfl, (by show 2 ≤ sizeLine; decide), fun r0 m0 => ?_⟩
    obtain ⟨h2, s2⟩ := h1.lay (.lst [.str "a", .str "longname"]) m0
    refine ⟨_, p, r0, n, [.str "a", .str "longname"], rfl, SqL.of upd_same, List.cons_ne_nil _ _, by decide, by omega, h2, fun K2 v hv h3 => ?_⟩
    generalize upd G1 r0 (.lst [.str "a", .str "longname"]) = G2 at h2 s2 h3
    obtain ⟨x, rfl, sx⟩ : ∃ x : Str, v = .str x ∧ (reprText x).length ≤ 10 := by
      simp only [List.mem_cons, List.not_mem_nil, or_false] at hv
      rcases hv with rfl | rfl
      · exact ⟨_, rfl, by decide +kernel⟩
      · exact ⟨_, rfl, by decide +kernel⟩
    refine ⟨(by show 2 ≤ sizeLine; decide), fun lf nf => ?_⟩
    obtain ⟨h4, s4⟩ := h3.lay (.tup [.str "feature", .str x]) nf
    have x4 : upd G2 lf (.tup [.str "feature", .str x]) lf = some (.tup [.str "feature", .str x]) := upd_same
    generalize upd G2 lf (.tup [.str "feature", .str x]) = G4 at h4 s4 x4
    generalize upd K2 lf (.tup [.str "feature", .str x]) = K4 at h4 ⊢
    have slf : Shows (.tuple [.str "feature", .str x]) 30 1 := (Shows.tup (.cons (shows_str (k := 0) feature_short) (.cons (shows_str sx) (.nil 0)))).more (by decide) (by decide)
    obtain ⟨lfd, hlfd⟩ : ∃ d, d = PyData.tuple [.str "feature", .str x] := ⟨_, rfl⟩
    have dlf : Da G4 (.ref lf) lfd := by rw [hlfd]; exact .tup x4 (.cons (.str _) (.cons (.str _) .nil))
    rw [← hlfd] at slf
    have g0 : Gr H0 p l (fun B => Da B (.ref lf) lfd) K4 (n + 1) 0 := by
      have sK := h4.1
      have S0 := s1.trans (s2.trans s4)
      refine ⟨lp, h4.full, fun b o kb => bs_at (fun z => ?_) (ne_of_none kb zl) (sK _ _ (S0 _ _ kb)), ?_, [], [], sK _ _ (s4 _ _ (s2 _ _ x1)), rfl, .nil, fun _ h => absurd h List.not_mem_nil⟩
      · rw [z, hh.2.1] at kb
        cases kb
      · have nlf : lf ≠ l := fun z => by
          have := s4 _ _ (s2 _ _ x1)
          rw [← z, x4] at this
          cases this
        rw [hlfd]
        exact .tup (bs_at (h4.apart x4) nlf (sK _ _ x4)) (.cons (.str _) (.cons (.str _) .nil))
    refine ⟨_, _, rfl, ?_⟩
    clear h1 h2 h3 h4 dlf
    -- many parts
    refine ⟨(by show 3 ≤ sizeLine; decide), fun t1 n1 => ?_⟩
    have g1 := g0.same (fun A B s h => h.mono s) (same_new (o := .tup [.int 398, .int 399, .int 400]) n1)
    have y1 : upd K4 t1 (.tup [.int 398, .int 399, .int 400]) t1 = some (.tup [.int 398, .int 399, .int 400]) := upd_same
    generalize upd K4 t1 (.tup [.int 398, .int 399, .int 400]) = K5 at g1 y1 ⊢
    have mono1 : ∀ A B, Same A B → (Da A (.ref lf) lfd ∧ A t1 = some (.tup [.int 398, .int 399, .int 400])) → (Da B (.ref lf) lfd ∧ B t1 = some (.tup [.int 398, .int 399, .int 400])) := fun A B s h => ⟨h.1.mono s, s _ _ h.2⟩
    have g1' := g1.re (Fy := fun B => Da B (.ref lf) lfd ∧ B t1 = some (.tup [.int 398, .int 399, .int 400])) fun fx => ⟨fx, g1.tup y1⟩
    refine ⟨t1, rfl, ⟨_, SqT.of y1⟩, ?_⟩
    refine for_tup (xs := [.int 398, .int 399, .int 400]) (fun i σ Hc => ∃ o3 o4 o5 o6 o7 : Option V, σ = [some (.ref p), some (.ref l), some (.ref lf), o3, o4, o5, o6, o7] ∧ Gr H0 p l (fun B => Da B (.ref lf) lfd ∧ B t1 = some (.tup [.int 398, .int 399, .int 400])) Hc (n + 1 + i) i) ⟨_, _, _, _, _, rfl, g1'⟩ ?_ ?_ ?_
    · rintro i σ Hc _ ⟨o3, o4, o5, o6, o7, rfl, g⟩
      exact SqT.of (bs_get g.fx.2).2.2
    · rintro i x σ Hc hx ⟨o3, o4, o5, o6, o7, rfl, g⟩
      have li : i < 3 := (List.getElem?_eq_some_iff.mp hx).1
      obtain ⟨z, rfl, z2, z4⟩ : ∃ z : Nat, x = .int ((z : Nat) : Int) ∧ 2 ≤ z ∧ z ≤ 400 := by
        match i, li, hx with
        | 0, _, hx => cases hx; exact ⟨398, rfl, by decide, by decide⟩
        | 1, _, hx => cases hx; exact ⟨399, rfl, by decide, by decide⟩
        | 2, _, hx => cases hx; exact ⟨400, rfl, by decide, by decide⟩
      obtain ⟨us, el, len⟩ := g.lst
      refine ⟨_, rfl, .inl ⟨rfl, _, SqL.of el⟩, _, rfl, (by show 2 ≤ sizeLine; decide), fun r m => ?_⟩
      have nrp := (g.new m).1
      have g2 := g.same mono1 (same_new (o := .lst [.str "all", .str "any"]) m)
      have yr : upd Hc r (.lst [.str "all", .str "any"]) r = some (.lst [.str "all", .str "any"]) := upd_same
      generalize upd Hc r (.lst [.str "all", .str "any"]) = H1 at g2 yr ⊢
      refine ⟨delH H1 p, p, r, n + 1 + i, [.str "all", .str "any"], rfl, SqL.of (by rw [delH_ne nrp]; exact yr), List.cons_ne_nil _ _, by decide, by omega, g2.hand, fun H2 v hv h2 => ?_⟩
      obtain ⟨h, rfl, hh1, hh2, hh3⟩ := head_of hv
      have g3 := g2.call mono1 h2
      refine ⟨(by show 1 ≤ sizeLine; decide), fun tq nq => ?_⟩
      have s4 := same_new (o := .tup [.str h]) nq
      have yq : upd H2 tq (.tup [.str h]) tq = some (.tup [.str h]) := upd_same
      generalize upd H2 tq (.tup [.str h]) = H3 at s4 yq ⊢
      refine ⟨_, rfl, (by show 1 ≤ sizeLine; decide), fun tl nl2 => ?_⟩
      have s5 := same_new (o := .tup [.ref lf]) nl2
      have yl : upd H3 tl (.tup [.ref lf]) tl = some (.tup [.ref lf]) := upd_same
      generalize upd H3 tl (.tup [.ref lf]) = H4 at s5 yl ⊢
      refine ⟨_, rfl, tl, _, [.ref lf], rfl, rfl, SqT.of yl, List.cons_ne_nil _ _, by omega, by omega, (by show 1 ≤ 1000; decide), fun tr nr => ?_⟩
      rw [flat_one, Int.toNat_natCast]
      have s6 := same_new (o := .tup (List.replicate z (.ref lf))) nr
      have yt : upd H4 tr (.tup (List.replicate z (.ref lf))) tr = some (.tup (List.replicate z (.ref lf))) := upd_same
      generalize upd H4 tr (.tup (List.replicate z (.ref lf))) = H5 at s6 yt ⊢
      refine ⟨tq, tr, _, _, rfl, rfl, (s5.trans s6) _ _ yq, yt, ?_, fun H6 q6 s7 e6 => ?_⟩
      · rw [List.length_replicate]
        exact Nat.le_trans (show 1 + z ≤ 401 by omega) (by decide)
      have g6 := g3.same mono1 (s4.trans (s5.trans (s6.trans s7)))
      have dx : Da (Bs H6 p l) (.ref q6) (.tuple (.str h :: List.replicate z lfd)) := .tup (g6.tup e6) (.cons (.str _) (da_rep g6.fx.1 z))
      have sx' : Shows (.tuple (.str h :: List.replicate z lfd)) 20000 14 := by
        have a := shows_rep slf z
        have zz : z * (30 + 2) ≤ 400 * 32 := Nat.mul_le_mul z4 (Nat.le_refl _)
        exact (Shows.tup (.cons (shows_str (heads_short h hh1)) a)).more (by omega) (by decide)
      obtain ⟨us6, el6, len6, g7⟩ := g6.push mono1 dx sx'
      refine ⟨l, us6, _, rfl, rfl, el6, ?_, _, _, _, _, _, rfl, g7⟩
      rw [len6]
      exact Nat.lt_of_lt_of_le (show i < 7 by omega) (by decide)
    · rintro σ Hc ⟨o3, o4, o5, o6, o7, rfl, g⟩
      -- many levels
      refine ⟨(by show 3 ≤ sizeLine; decide), fun t2 n2 => ?_⟩
      have g2 := g.same mono1 (same_new (o := .tup [.int 9, .int 10, .int 11]) n2)
      have y2 : upd Hc t2 (.tup [.int 9, .int 10, .int 11]) t2 = some (.tup [.int 9, .int 10, .int 11]) := upd_same
      generalize upd Hc t2 (.tup [.int 9, .int 10, .int 11]) = K6 at g2 y2 ⊢
      have mono2 : ∀ A B, Same A B → (Da A (.ref lf) lfd ∧ A t2 = some (.tup [.int 9, .int 10, .int 11])) → (Da B (.ref lf) lfd ∧ B t2 = some (.tup [.int 9, .int 10, .int 11])) := fun A B s h => ⟨h.1.mono s, s _ _ h.2⟩
      have g2' := g2.re (Fy := fun B => Da B (.ref lf) lfd ∧ B t2 = some (.tup [.int 9, .int 10, .int 11])) fun fx => ⟨fx.1, g2.tup y2⟩
      refine ⟨t2, rfl, ⟨_, SqT.of y2⟩, ?_⟩
      refine for_tup (xs := [.int 9, .int 10, .int 11]) (fun i σ Hc => ∃ o3 o4 o5 o6 o7 : Option V, σ = [some (.ref p), some (.ref l), some (.ref lf), o3, o4, o5, o6, o7] ∧ Gr H0 p l (fun B => Da B (.ref lf) lfd ∧ B t2 = some (.tup [.int 9, .int 10, .int 11])) Hc (n + 4 + 11 * i) (3 + i)) ⟨_, _, _, _, _, rfl, g2'⟩ ?_ ?_ ?_
      · rintro i σ Hc _ ⟨o3, o4, o5, o6, o7, rfl, g⟩
        exact SqT.of (bs_get g.fx.2).2.2
      · rintro i x σ Hc hx ⟨o3, o4, o5, o6, o7, rfl, g⟩
        have li : i < 3 := (List.getElem?_eq_some_iff.mp hx).1
        obtain ⟨z, rfl, z2⟩ : ∃ z : Nat, x = .int ((z + 1 : Nat) : Int) ∧ z ≤ 10 := by
          match i, li, hx with
          | 0, _, hx => cases hx; exact ⟨8, rfl, by decide⟩
          | 1, _, hx => cases hx; exact ⟨9, rfl, by decide⟩
          | 2, _, hx => cases hx; exact ⟨10, rfl, by decide⟩
        have zi : (((z + 1 : Nat) : Int) - 1) = ((z : Nat) : Int) := by omega
        refine ⟨_, rfl, _, rfl, _, _, rfl, rfl, ((z + 1 : Nat) : Int) - 1, rfl, by omega, by omega, ?_⟩
        rw [zi]
        refine for_range (n := ((z : Nat) : Int).toNat) (fun j σ Hd => ∃ (o6 : Option V) (v : V) (d : PyData), σ = [some (.ref p), some (.ref l), some (.ref lf), o3, some (.int ((z + 1 : Nat) : Int)), some v, o6, o7] ∧ Gr H0 p l (fun B => Da B (.ref lf) lfd ∧ B t2 = some (.tup [.int 9, .int 10, .int 11])) Hd (n + 4 + 11 * i + j) (3 + i) ∧ Da (Bs Hd p l) v d ∧ Shows d (30 + 50 * j) (1 + j)) ⟨_, .ref lf, lfd, rfl, g, g.fx.1, slf⟩ ?_ ?_
        · rintro j σ Hd hj ⟨o6, v, d, rfl, gd, dv, sd⟩
          have jz : j < 10 := by omega
          refine ⟨_, rfl, _, rfl, (by show 2 ≤ sizeLine; decide), fun q1 m1 => ?_⟩
          have s1 := same_new (o := .tup [.str "not", v]) m1
          have w1 : upd Hd q1 (.tup [.str "not", v]) q1 = some (.tup [.str "not", v]) := upd_same
          generalize upd Hd q1 (.tup [.str "not", v]) = L1 at s1 w1 ⊢
          refine ⟨_, rfl, (by show 2 ≤ sizeLine; decide), fun q2 m2 => ?_⟩
          have s2 := same_new (o := .tup [.str "all", v]) m2
          have w2 : upd L1 q2 (.tup [.str "all", v]) q2 = some (.tup [.str "all", v]) := upd_same
          generalize upd L1 q2 (.tup [.str "all", v]) = L2 at s2 w2 ⊢
          refine ⟨_, rfl, (by show 2 ≤ sizeLine; decide), fun q3 m3 => ?_⟩
          have s3 := same_new (o := .tup [.str "any", v]) m3
          have w3 : upd L2 q3 (.tup [.str "any", v]) q3 = some (.tup [.str "any", v]) := upd_same
          generalize upd L2 q3 (.tup [.str "any", v]) = L3 at s3 w3 ⊢
          refine ⟨_, rfl, _, rfl, (by show 3 ≤ sizeLine; decide), fun q4 m4 => ?_⟩
          have s4 := same_new (o := .tup [.str "any", .ref lf, v]) m4
          have w4 : upd L3 q4 (.tup [.str "any", .ref lf, v]) q4 = some (.tup [.str "any", .ref lf, v]) := upd_same
          generalize upd L3 q4 (.tup [.str "any", .ref lf, v]) = L4 at s4 w4 ⊢
          refine ⟨(by show 4 ≤ sizeLine; decide), fun r m5 => ?_⟩
          have s5 := same_new (o := .lst [.ref q1, .ref q2, .ref q3, .ref q4]) m5
          have w5 : upd L4 r (.lst [.ref q1, .ref q2, .ref q3, .ref q4]) r = some (.lst [.ref q1, .ref q2, .ref q3, .ref q4]) := upd_same
          have g4 := gd.same mono2 (s1.trans (s2.trans (s3.trans s4)))
          have nrp := (g4.new m5).1
          have g5 := g4.same mono2 s5
          have sAll := s1.trans (s2.trans (s3.trans (s4.trans s5)))
          generalize upd L4 r (.lst [.ref q1, .ref q2, .ref q3, .ref q4]) = L5 at s5 w5 g5 sAll ⊢
          have dv5 := dv.mono (bs_same (p := p) (l := l) (del_sub.trans sAll))
          refine ⟨delH L5 p, p, r, _, [.ref q1, .ref q2, .ref q3, .ref q4], rfl, SqL.of (by rw [delH_ne nrp]; exact w5), List.cons_ne_nil _ _, (by show 4 ≤ 1000000; decide), by omega, g5.hand, fun L6 v' hv h6 => ?_⟩
          have g6 := g5.call mono2 h6
          have sB := bs_same (l := l) h6.1
          have fin : ∃ d', Da (Bs L5 p l) v' d' ∧ Shows d' (30 + 50 * (j + 1)) (1 + (j + 1)) := by
            simp only [List.mem_cons, List.not_mem_nil, or_false] at hv
            rcases hv with rfl | rfl | rfl | rfl
            · exact ⟨_, .tup (g5.tup ((s2.trans (s3.trans (s4.trans s5))) _ _ w1)) (.cons (.str _) (.cons dv5 .nil)), (Shows.tup (.cons (shows_str (n := 5) (by decide +kernel)) (.cons sd (.nil _)))).more (by omega) (by omega)⟩
            · exact ⟨_, .tup (g5.tup ((s3.trans (s4.trans s5)) _ _ w2)) (.cons (.str _) (.cons dv5 .nil)), (Shows.tup (.cons (shows_str (n := 5) (by decide +kernel)) (.cons sd (.nil _)))).more (by omega) (by omega)⟩
            · exact ⟨_, .tup (g5.tup ((s4.trans s5) _ _ w3)) (.cons (.str _) (.cons dv5 .nil)), (Shows.tup (.cons (shows_str (n := 5) (by decide +kernel)) (.cons sd (.nil _)))).more (by omega) (by omega)⟩
            · exact ⟨_, .tup (g5.tup (s5 _ _ w4)) (.cons (.str _) (.cons g5.fx.1 (.cons dv5 .nil))), (Shows.tup (.cons (shows_str (n := 5) (by decide +kernel)) (.cons (slf.more (Nat.le_refl _) (by omega)) (.cons sd (.nil _))))).more (by omega) (by omega)⟩
          obtain ⟨d', x1, x2⟩ := fin
          exact ⟨_, v', d', rfl, g6, x1.mono sB, x2⟩
        · rintro σ Hd ⟨o6, v, d, rfl, gd, dv, sd⟩
          have zz : ((z : Nat) : Int).toNat = z := by omega
          rw [zz] at gd sd
          obtain ⟨us, el, len, g7⟩ := gd.push mono2 dv (sd.more (by omega) (by omega))
          refine ⟨_, rfl, .inl ⟨rfl, _, SqL.of el⟩, _, rfl, l, us, _, rfl, rfl, el, ?_, _, _, _, _, _, rfl, (g7.more (by omega))⟩
          rw [len]
          exact Nat.lt_of_lt_of_le (show 3 + i < 7 by omega) (by decide)
      · rintro σ Hc ⟨o3, o4, o5, o6, o7, rfl, g⟩
        refine ⟨_, rfl, delH Hc p, p, _, 200, rfl, by decide, by decide, by show n + 4 + 11 * 3 < 1000000000; omega, g.hand, fun H1 hd d0 d1 h1 => ⟨_, _, rfl, rfl, ?_⟩⟩
        obtain ⟨z, rfl⟩ := Int.eq_ofNat_of_zero_le d0
        have g1 := g.call mono2 h1
        have za : ((100 : Int) + ((z : Nat) : Int)) = ((100 + z : Nat) : Int) := by omega
        have zb : ((397 : Int) - ((100 : Int) + ((z : Nat) : Int))) = ((297 - z : Nat) : Int) := by omega
        have zl : z < 200 := by omega
        refine ⟨_, rfl, (by show 1 ≤ sizeLine; decide), fun ta na => ?_⟩
        have s1 := same_new (o := .tup [.str "any"]) na
        have w1 : upd H1 ta (.tup [.str "any"]) ta = some (.tup [.str "any"]) := upd_same
        generalize upd H1 ta (.tup [.str "any"]) = L1 at s1 w1 ⊢
        refine ⟨_, rfl, (by show 1 ≤ sizeLine; decide), fun tb nb => ?_⟩
        have s2 := same_new (o := .tup [.ref lf]) nb
        have w2 : upd L1 tb (.tup [.ref lf]) tb = some (.tup [.ref lf]) := upd_same
        generalize upd L1 tb (.tup [.ref lf]) = L2 at s2 w2 ⊢
        refine ⟨_, rfl, tb, _, [.ref lf], rfl, rfl, SqT.of w2, List.cons_ne_nil _ _, by omega, by omega, (by show 1 ≤ 1000; decide), fun tc nc => ?_⟩
        rw [flat_one, za, Int.toNat_natCast]
        have s3 := same_new (o := .tup (List.replicate (100 + z) (.ref lf))) nc
        have w3 : upd L2 tc (.tup (List.replicate (100 + z) (.ref lf))) tc = some (.tup (List.replicate (100 + z) (.ref lf))) := upd_same
        generalize upd L2 tc (.tup (List.replicate (100 + z) (.ref lf))) = L3 at s3 w3 ⊢
        refine ⟨ta, tc, _, _, rfl, rfl, (s2.trans s3) _ _ w1, w3, ?_, fun L4 qa s4 eA => ?_⟩
        · rw [List.length_replicate]
          exact Nat.le_trans (show 1 + (100 + z) ≤ 401 by omega) (by decide)
        refine ⟨(by show 1 ≤ sizeLine; decide), fun td nd => ?_⟩
        have s5 := same_new (o := .tup [.str "any"]) nd
        have w5 : upd L4 td (.tup [.str "any"]) td = some (.tup [.str "any"]) := upd_same
        generalize upd L4 td (.tup [.str "any"]) = L5 at s5 w5 ⊢
        refine ⟨_, rfl, (by show 1 ≤ sizeLine; decide), fun te ne => ?_⟩
        have s6 := same_new (o := .tup [.ref lf]) ne
        have w6 : upd L5 te (.tup [.ref lf]) te = some (.tup [.ref lf]) := upd_same
        generalize upd L5 te (.tup [.ref lf]) = L6 at s6 w6 ⊢
        refine ⟨_, rfl, _, _, rfl, rfl, te, _, [.ref lf], rfl, rfl, SqT.of w6, List.cons_ne_nil _ _, by omega, by omega, (by show 1 ≤ 1000; decide), fun tf nf => ?_⟩
        rw [flat_one, zb, Int.toNat_natCast]
        have s7 := same_new (o := .tup (List.replicate (297 - z) (.ref lf))) nf
        have w7 : upd L6 tf (.tup (List.replicate (297 - z) (.ref lf))) tf = some (.tup (List.replicate (297 - z) (.ref lf))) := upd_same
        generalize upd L6 tf (.tup (List.replicate (297 - z) (.ref lf))) = L7 at s7 w7 ⊢
        refine ⟨td, tf, _, _, rfl, rfl, (s6.trans s7) _ _ w5, w7, ?_, fun L8 qb s8 eB => ?_⟩
        · rw [List.length_replicate]
          exact Nat.le_trans (show 1 + (297 - z) ≤ 401 by omega) (by decide)
        refine ⟨(by show 3 ≤ sizeLine; decide), fun tt nt => ?_⟩
        have s9 := same_new (o := .tup [.str "all", .ref qa, .ref qb]) nt
        have w9 : upd L8 tt (.tup [.str "all", .ref qa, .ref qb]) tt = some (.tup [.str "all", .ref qa, .ref qb]) := upd_same
        generalize upd L8 tt (.tup [.str "all", .ref qa, .ref qb]) = L9 at s9 w9 ⊢
        refine ⟨(by show 1 ≤ sizeLine; decide), fun r1 nr1 => ?_⟩
        have s10 := same_new (o := .lst [.ref tt]) nr1
        have w10 : upd L9 r1 (.lst [.ref tt]) r1 = some (.lst [.ref tt]) := upd_same
        generalize upd L9 r1 (.lst [.ref tt]) = L10 at s10 w10 ⊢
        have g10 := g1.same mono2 (s1.trans (s2.trans (s3.trans (s4.trans (s5.trans (s6.trans (s7.trans (s8.trans (s9.trans s10)))))))))
        obtain ⟨lp', hc, s0, fx, us, ds, el, len, al, sh⟩ := id g10
        refine ⟨l, r1, us, _, rfl, rfl, el, w10, ?_, fun r nr => ?_⟩
        · rw [len]
          show 3 + 3 + 1 ≤ sizeLine
          decide
        have nrp := (g10.new nr).1
        have s11 := same_new (o := .lst (us ++ [.ref tt])) nr
        have w11 : upd L10 r (.lst (us ++ [.ref tt])) r = some (.lst (us ++ [.ref tt])) := upd_same
        have g11 := g10.same mono2 s11
        generalize upd L10 r (.lst (us ++ [.ref tt])) = L11 at s11 w11 g11
        have sBB : Same (Bs L10 p l) (delH L11 p) := (bs_same (p := p) (l := l) (del_sub.trans s11)).trans bs_sub
        have tA := g10.tup ((s5.trans (s6.trans (s7.trans (s8.trans (s9.trans s10))))) _ _ eA)
        have tB := g10.tup ((s9.trans s10) _ _ eB)
        have tT := g10.tup (s10 _ _ w9)
        have dT : Da (Bs L10 p l) (.ref tt) (.tuple [.str "all", .tuple (.str "any" :: List.replicate (100 + z) lfd), .tuple (.str "any" :: List.replicate (297 - z) lfd)]) :=
          .tup tT (.cons (.str _) (.cons (.tup tA (.cons (.str _) (da_rep fx.1 _))) (.cons (.tup tB (.cons (.str _) (da_rep fx.1 _))) .nil)))
        have sT : Shows (.tuple [.str "all", .tuple (.str "any" :: List.replicate (100 + z) lfd), .tuple (.str "any" :: List.replicate (297 - z) lfd)]) 20000 14 := by
          have a := shows_rep slf (100 + z)
          have b := shows_rep slf (297 - z)
          have w1 := Shows.tup (.cons (shows_str (n := 5) (by decide +kernel)) a : ShowsAll (.str "any" :: _) _ _)
          have w2 := Shows.tup (.cons (shows_str (n := 5) (by decide +kernel)) b : ShowsAll (.str "any" :: _) _ _)
          exact (Shows.tup (.cons (shows_str (n := 5) (by decide +kernel)) (.cons w1 (.cons w2 (.nil _))))).more (by omega) (by decide)
        refine q (delH L11 p) L11 r (us ++ [.ref tt]) (ds ++ [_]) (s0.trans sBB) (g11.hand.mono (by show n + 4 + 11 * 3 + 1 ≤ n + 60; omega)) (by rw [delH_ne nrp]; exact w11) ?_ ((al.mono sBB).append (.cons (dT.mono sBB) .nil)) fun e he => ?_
        · rw [List.length_append, len]
          rfl
        · rcases List.mem_append.mp he with he | he
          · exact sh e he
          · rw [List.mem_singleton.mp he]
            exact sT
end
end L2.Fu
namespace L2.Fu
open PySem PySem.Spec PyProof.Rows
/-- under way: the hand, the list of what was found so far, and what else must stay -/
def Gq (H0 : Hp) (p l : Addr) (Fx : Hp → Prop) (Hc : Hp) (c n : Nat) : Prop := l ≠ p ∧ Hand (delH Hc p) Hc p c ∧ Same H0 (Bs Hc p l) ∧ Fx (Bs Hc p l) ∧ ∃ us ds, Hc l = some (.lst us) ∧ us.length = n ∧ DaAll (Bs Hc p l) us ds ∧ ∀ d ∈ ds, Shows d 100000 50
section
variable {H0 : Hp} {p l : Addr} {Fx : Hp → Prop} {Hc H' : Hp} {c c' n : Nat} (mono : ∀ A B, Same A B → Fx A → Fx B)
include mono
theorem Gq.call (g : Gq H0 p l Fx Hc c n) (h : Hand (delH Hc p) H' p c') : Gq H0 p l Fx H' c' n := by
  obtain ⟨lp, hc, s0, fx, us, ds, el, len, al, sh⟩ := g
  have s := bs_same (l := l) h.1
  exact ⟨lp, h.full, s0.trans s, mono _ _ s fx, us, ds, h.1 _ _ (by rw [delH_ne lp]; exact el), len, al.mono s, sh⟩
theorem Gq.same (g : Gq H0 p l Fx Hc c n) (s : Same Hc H') : Gq H0 p l Fx H' c n := by
  obtain ⟨lp, hc, s0, fx, us, ds, el, len, al, sh⟩ := g
  have t := bs_same (p := p) (l := l) (del_sub.trans s)
  exact ⟨lp, (hc.same s).full, s0.trans t, mono _ _ t fx, us, ds, s _ _ el, len, al.mono t, sh⟩
theorem Gq.push {x : V} {d : PyData} (g : Gq H0 p l Fx Hc c n) (dx : Da (Bs Hc p l) x d) (sx : Shows d 100000 50) : ∃ us, Hc l = some (.lst us) ∧ us.length = n ∧ Gq H0 p l Fx (upd Hc l (.lst (us ++ [x]))) c (n + 1) := by
  obtain ⟨lp, hc, s0, fx, us, ds, el, len, al, sh⟩ := g
  refine ⟨us, el, len, lp, (hc.upd lp).full, s0.trans bs_upd, mono _ _ bs_upd fx, us ++ [x], ds ++ [d], upd_same, by rw [List.length_append, len]; rfl, (al.mono bs_upd).append (.cons (dx.mono bs_upd) .nil), fun e he => ?_⟩
  rcases List.mem_append.mp he with he | he
  · exact sh e he
  · rw [List.mem_singleton.mp he]
    exact sx
omit mono
theorem Gq.re {Fy : Hp → Prop} (g : Gq H0 p l Fx Hc c n) (f : Fx (Bs Hc p l) → Fy (Bs Hc p l)) : Gq H0 p l Fy Hc c n := by
  obtain ⟨lp, hc, s0, fx, r⟩ := g
  exact ⟨lp, hc, s0, f fx, r⟩
theorem Gq.hand (g : Gq H0 p l Fx Hc c n) : Hand (delH Hc p) Hc p c := g.2.1
theorem Gq.fx (g : Gq H0 p l Fx Hc c n) : Fx (Bs Hc p l) := g.2.2.2.1
theorem Gq.more (g : Gq H0 p l Fx Hc c n) (h : c ≤ c') : Gq H0 p l Fx Hc c' n := by
  obtain ⟨lp, hc, r⟩ := g
  exact ⟨lp, hc.mono h, r⟩
/-- a new tuple stands in what stays -/
theorem Gq.new {q : Addr} (g : Gq H0 p l Fx Hc c n) (f : Hc q = none) : q ≠ p ∧ q ≠ l := by
  obtain ⟨_, hc, _, _, us, _, el, _⟩ := g
  exact ⟨hc.ne f, fun z => by rw [z, el] at f; cases f⟩
theorem Gq.tup {q : Addr} {ys : List V} (g : Gq H0 p l Fx Hc c n) (e : Hc q = some (.tup ys)) : Bs Hc p l q = some (.tup ys) := by
  obtain ⟨_, hc, _, _, us, _, el, _⟩ := g
  obtain ⟨xp, ep⟩ := hc.at
  exact bs_at (fun z => by rw [z, ep] at e; cases e) (fun z => by rw [z, el] at e; cases e) e
theorem Gq.lst (g : Gq H0 p l Fx Hc c n) : ∃ us, Hc l = some (.lst us) ∧ us.length = n := by
  obtain ⟨_, _, _, _, us, _, el, len, _⟩ := g
  exact ⟨us, el, len⟩
end
end L2.Fu
/-! ## Whether the answers agree -/
namespace L2.Fu
open PySem PySem.Spec PyProof.Rows
def spRight : Sp := fun vs H Q _ => ∃ (v : V) (d : PyData), vs = [v] ∧ Da H v d ∧ Fits d ∧ ∀ H' : Hp, Same H H' → Q (.bl true) H'
theorem shows_bool (b : Bool) {k : Nat} : Shows (.bool b) 5 k := ⟨by simp only [PyData.showable], by cases b <;> (simp only [PyData.shown]; decide), by simp only [PyData.depth]; exact Nat.zero_le _⟩
theorem shows_two (a b : Bool) : Shows (.list [.bool a, .bool b]) 16000000 60 := (Shows.lst (.cons (shows_bool a (k := 0)) (.cons (shows_bool b) (.nil 0)))).more (by decide) (by decide)
section
variable {P : Program} {w : World} {K : PySem.W.Frag} {mg : Str → Option Value} {base : Heap}
theorem scRight : FnScope ["_law_thing", "_law_noted", "_law_told"] ["_law_thing"] (defScope sRight) := ⟨rfl, rfl, rfl, by decide +kernel, rfl, by decide +kernel, by decide +kernel⟩
theorem ok_right {f fN fF fL fC : Addr} {fd fdN fdF fdL fdC : FuncData} (F : Fun K "_law_right" "_law_right" sRight f fd)
    (GN : FnOk P w K mg base CX0 1 fN fdN ["thing"] spName) (mN : mg "is_name" = some (.ref fN)) (kN : PySem.W.keepIn K (.ref fN) = true) (bN : Binds K fdN ["thing"] [])
    (GF : FnOk P w K mg base CX0 3 fF fdF ["thing"] spIsForm) (mF : mg "is_formula" = some (.ref fF)) (kF : PySem.W.keepIn K (.ref fF) = true) (bF : Binds K fdF ["thing"] [])
    (GL : FnOk P w K mg base CX0 1 fL fdL ["_law_thing"] spName) (mL : mg "_law_is_name" = some (.ref fL)) (kL : PySem.W.keepIn K (.ref fL) = true) (bL : Binds K fdL ["_law_thing"] [])
    (GC : FnOk P w K mg base CX0 12 fC fdC ["_law_thing", "_law_depth"] (spCount 11)) (mC : mg "_law_count" = some (.ref fC)) (kC : PySem.W.keepIn K (.ref fC) = true) (bC : Binds K fdC ["_law_thing", "_law_depth"] [])
    (zRepr : mg "repr" = none) : FnG P w K mg base CX0 13 f fd ["_law_thing"] spRight := by
  refine Fun.okG F scRight (fun vs H Q E h => ?_) (fun cdv A outer s H vs Q E gd hr h => ?_)
  · obtain ⟨v, d, rfl, _⟩ := h
    rfl
  · obtain ⟨v, d, rfl, dv, ft, q⟩ := h
    have hr1 := hr.mono (show 1 ≤ 12 by decide)
    have hr3 := hr.mono (show 3 ≤ 12 by decide)
    refine ⟨_, pss_cons (ps_set (i := 1) scRight.nd rfl (.inl rfl) (pe_callB (call_reprD gd hr.units) (by rfl) zRepr PyProof.Rows.boot_repr (pa_cons (pv 0) pa_nil)))
      (pss_cons (ps_set (i := 2) scRight.nd rfl (.inl rfl) (pe_lstN (pa_cons (pe_call GN hr1 rfl mN kN bN .nil pass0 (pa_cons (pv 0) pa_nil)) (pa_cons (pe_call GF hr3 rfl mF kF bF .nil pass0 (pa_cons (pv 0) pa_nil)) pa_nil))))
      (pss_one (ps_ret (pe_and (pe_cmpR op_eq (pe_callB (call_reprD gd hr.units) (by rfl) zRepr PyProof.Rows.boot_repr (pa_cons (pv 2) pa_nil)) (pe_callB (call_reprD gd hr.units) (by rfl) zRepr PyProof.Rows.boot_repr (pa_cons (pe_lstN (pa_cons (pe_call GL hr1 rfl mL kL bL .nil pass0 (pa_cons (pv 0) pa_nil)) (pa_cons (pe_cmpR op_le (pe_call GC hr rfl mC kC bC .nil pass0 (pa_cons (pv 0) (pa_cons pe_int pa_nil))) pe_int (nomark _)) pa_nil))) pa_nil)) (nomark _))
        (pe_one (pe_cmpR op_eq (pe_callB (call_reprD gd hr.units) (by rfl) zRepr PyProof.Rows.boot_repr (pa_cons (pv 0) pa_nil)) (pv 1) (nomark _))))))), ?_⟩
    refine ⟨_, rfl, v, d, rfl, dv, ft, ?_⟩
    refine ⟨_, rfl, v, d, rfl, dv, ft, fun H1 s1 => ⟨_, rfl, v, d, rfl, dv.mono s1, ft, fun H2 s2 => ⟨(by show 2 ≤ sizeLine; decide), fun l nl ne => ?_⟩⟩⟩
    have s3 := same_new (o := .lst [.bl (nameD d), .bl (decide (countN 10 d ≤ 400))]) nl
    have e3 : upd H2 l (.lst [.bl (nameD d), .bl (decide (countN 10 d ≤ 400))]) l = some (.lst [.bl (nameD d), .bl (decide (countN 10 d ≤ 400))]) := upd_same
    generalize upd H2 l (.lst [.bl (nameD d), .bl (decide (countN 10 d ≤ 400))]) = H3 at s3 e3 ⊢
    have S3 := s1.trans (s2.trans s3)
    refine ⟨_, rfl, .ref l, _, rfl, .lst e3 ne (.cons (.bl _) (.cons (.bl _) .nil)), shows_two _ _, ?_⟩
    refine ⟨_, rfl, v, d, rfl, dv.mono S3, ft, fun H4 s4 => ⟨_, rfl, v, d, 1, rfl, dv.mono (S3.trans s4), ft, by decide, by decide, fun H5 s5 => ⟨_, _, rfl, rfl, (by show 2 ≤ sizeLine; decide), fun l2 nl2 ne2 => ?_⟩⟩⟩
    have S5 := S3.trans (s4.trans s5)
    have ed : decide (((countN (11 - 1) d : Nat) : Int) ≤ 400) = decide (countN 10 d ≤ 400) := by
      by_cases z : countN 10 d ≤ 400
      · rw [decide_eq_true z, decide_eq_true (show ((countN 10 d : Nat) : Int) ≤ 400 by omega)]
      · rw [decide_eq_false z, decide_eq_false (show ¬ ((countN 10 d : Nat) : Int) ≤ 400 by omega)]
    have s6 := same_new (o := .lst [.bl (nameD d), .bl (decide (((countN (11 - 1) d : Nat) : Int) ≤ 400))]) nl2
    refine ⟨.ref l2, .list [.bool (nameD d), .bool (decide (countN 10 d ≤ 400))], rfl, .lst upd_same ne2 (.cons (.bl _) (.cons ?_ .nil)), shows_two _ _, rfl, _, rfl, ?_⟩
    · show Da _ (.bl (decide (((countN (11 - 1) d : Nat) : Int) ≤ 400))) _
      rw [ed]
      exact .bl _
    rw [decide_eq_true rfl]
    refine iteT ⟨_, rfl, v, d, rfl, dv.mono (S5.trans s6), ft, _, rfl, rfl, ?_⟩
    rw [decide_eq_true rfl]
    exact q _ (S5.trans s6)
end
end L2.Fu
/-! ## The law -/
namespace L2.Fu
open PySem PySem.Spec PyProof.Rows
theorem FmAll.das {H : Hp} : ∀ {vs : List V} {fs : List Fm}, FmAll H vs fs → DaAll H vs (datAll fs)
  | _, _, .nil => by simp only [datAll]; exact .nil
  | _, _, .cons a t => by simp only [datAll]; exact .cons a.da (FmAll.das t)
theorem dat_shows : ∀ {fs : List Fm}, (∀ f ∈ fs, Ok f ∧ (subs f).length ≤ 64 ∧ tall f ≤ 4) → ∀ d ∈ datAll fs, Shows d 20000 14
  | [], _, d, hd => by simp only [datAll] at hd; cases hd
  | f :: fs, h, d, hd => by
    simp only [datAll, List.mem_cons] at hd
    rcases hd with rfl | hd
    · obtain ⟨o, z, t⟩ := h f List.mem_cons_self
      exact (shows_fm f o).more (by omega) (by omega)
    · exact dat_shows (fun g hg => h g (List.mem_cons_of_mem _ hg)) d hd
theorem DaAll.mem {H : Hp} : ∀ {vs : List V} {ds : List PyData} {v : V}, DaAll H vs ds → v ∈ vs → ∃ d ∈ ds, Da H v d
  | _, _, _, .nil, h => absurd h List.not_mem_nil
  | _, _, v, .cons a t, h => by
    rcases List.mem_cons.mp h with rfl | h
    · exact ⟨_, List.mem_cons_self, a⟩
    · obtain ⟨d, hd, x⟩ := DaAll.mem t h
      exact ⟨d, List.mem_cons_of_mem _ hd, x⟩
theorem Gq.start {G Hc : Hp} {p D : Addr} {c : Nat} (h : Hand G Hc p c) (f : Hc D = none) : Gq G p D (fun _ => True) (upd Hc D (.lst [])) c 0 := by
  have dp := h.ne f
  have h2 := h.same (same_new (o := .lst []) f)
  refine ⟨dp, h2.full, fun b o k => bs_at (h.apart k) (ne_of_none k (h.1.free f)) (h2.1 _ _ k), trivial, [], [], upd_same, rfl, .nil, fun _ z => absurd z List.not_mem_nil⟩
def spLaw (K : PySem.W.Frag) : Sp := fun vs H Q _ => ∃ (a : Addr) (ns : List Int), vs = [.ref a] ∧ SqL K H a (ns.map V.int) ∧ ns.length ≤ 63 ∧ ∀ H', Q (.bl true) H'
theorem all_true : ∀ n : Nat, (List.replicate n true).all id = true
  | 0 => rfl
  | n + 1 => by rw [List.replicate_succ, List.all_cons, all_true n]; rfl
theorem snoc_true (n : Nat) : (List.replicate n true).map V.bl ++ [V.bl true] = (List.replicate (n + 1) true).map V.bl := by
  rw [List.replicate_succ', List.map_append]
  rfl
theorem pow_three {d : Nat} (h : d ≤ 3) : 4 ^ d ≤ 64 := Nat.pow_le_pow_right (n := 4) (by decide) h
section
variable {P : Program} {w : World} {K : PySem.W.Frag} {mg : Str → Option Value} {base : Heap}
abbrev nLaw : List Str := ["_law_script", "_law_k", "_law_hand_here", "_law_names_here", "_law_some", "_law_things", "_law_turn", "_law_thing"]
theorem scLaw : FnScope nLaw ["_law_script"] (defScope sLaw) := ⟨rfl, rfl, rfl, by decide +kernel, rfl, by decide +kernel, by decide +kernel⟩
theorem ok_law {f fH fN fT fO fF fG fB fD fR : Addr} {fd fdH fdN fdT fdO fdF fdG fdB fdD fdR : FuncData} (F : Fun K "law" "law" sLaw f fd)
    (GH : FnOk P w K mg base CX0 1 fH fdH ["_law_script", "_law_k"] (spHand K)) (mH : mg "_law_hand" = some (.ref fH)) (kH : PySem.W.keepIn K (.ref fH) = true) (bH : Binds K fdH ["_law_script", "_law_k"] [])
    (GN : FnOk P w K mg base CX0 2 fN fdN ["_law_hand_here", "_law_count_here"] spNames) (mN : mg "_law_names" = some (.ref fN)) (kN : PySem.W.keepIn K (.ref fN) = true) (bN : Binds K fdN ["_law_hand_here", "_law_count_here"] [])
    (GT : FnOk P w K mg base CX0 1 fT fdT ["_law_hand_here", "_law_many"] spTake) (mT : mg "_law_take" = some (.ref fT)) (kT : PySem.W.keepIn K (.ref fT) = true) (bT : Binds K fdT ["_law_hand_here", "_law_many"] [])
    (GO : FnOk P w K mg base CX0 2 fO fdO [ofN, ofS] (spOf K)) (mO : mg "_law_of" = some (.ref fO)) (kO : PySem.W.keepIn K (.ref fO) = true) (bO : Binds K fdO [ofN, ofS] [])
    (GF : FnOk P w K mg base CX0 6 fF fdF ["_law_hand_here", "_law_names_here", "_law_depth"] (spForm 4)) (mF : mg "_law_formula" = some (.ref fF)) (kF : PySem.W.keepIn K (.ref fF) = true) (bF : Binds K fdF ["_law_hand_here", "_law_names_here", "_law_depth"] [])
    (GG : FnOk P w K mg base CX0 3 fG fdG ["_law_hand_here"] spGreat) (mG : mg "_law_great" = some (.ref fG)) (kG : PySem.W.keepIn K (.ref fG) = true) (bG : Binds K fdG ["_law_hand_here"] [])
    (GB : FnOk P w K mg base CX0 9 fB fdB ["_law_hand_here", "_law_thing", "_law_depth"] (spBent 6)) (mB : mg "_law_bent" = some (.ref fB)) (kB : PySem.W.keepIn K (.ref fB) = true) (bB : Binds K fdB ["_law_hand_here", "_law_thing", "_law_depth"] [])
    (GD : FnOk P w K mg base CX0 3 fD fdD ["_law_hand_here"] spOdd) (mD : mg "_law_odd" = some (.ref fD)) (kD : PySem.W.keepIn K (.ref fD) = true) (bD : Binds K fdD ["_law_hand_here"] [])
    (GR : FnG P w K mg base CX0 13 fR fdR ["_law_thing"] spRight) (mR : mg "_law_right" = some (.ref fR)) (kR : PySem.W.keepIn K (.ref fR) = true) (bR : Binds K fdR ["_law_thing"] [])
    (zRange : mg "range" = none) (zMax : mg "max" = none) (zMin : mg "min" = none) (zLen : mg "len" = none) (zAll : mg "all" = none) : FnG P w K mg base CX0 14 f fd ["_law_script"] (spLaw K) := by
  refine Fun.okG F scLaw (fun vs H Q E h => ?_) (fun cdv A outer s H vs Q E gd hr h => ?_)
  · obtain ⟨a, ns, rfl, _⟩ := h
    rfl
  · obtain ⟨a, ns, rfl, hS, h63, q⟩ := h
    have hr1 := hr.mono (show 1 ≤ 13 by decide)
    have hr2 := hr.mono (show 2 ≤ 13 by decide)
    have hr3 := hr.mono (show 3 ≤ 13 by decide)
    have hr6 := hr.mono (show 6 ≤ 13 by decide)
    have hr9 := hr.mono (show 9 ≤ 13 by decide)
    refine ⟨_, pss_cons (ps_for PassesOwn.never rfl (pi_range1 (by rfl) zRange (pa_cons (pe_callB (call_max2 rfl) (by rfl) zMax PyProof.Rows.boot_max (pa_cons pe_int (pa_cons (pe_callB (call_min2 rfl) (by rfl) zMin PyProof.Rows.boot_min (pa_cons pe_int (pa_cons (pe_callB call_len_seq (by rfl) zLen PySem.boot_len (pa_cons (pv 0) pa_nil)) pa_nil))) pa_nil))) pa_nil)) (pg_name (i := 1) scLaw.nd rfl (.inl rfl))
        (pss_cons (ps_set (i := 2) scLaw.nd rfl (.inr rfl) (pe_call GH hr1 rfl mH kH bH .nil pass0 (pa_cons (pv 0) (pa_cons (pv 1) pa_nil))))
        (pss_cons (ps_set (i := 3) scLaw.nd rfl (.inr rfl) (pe_call GN hr2 rfl mN kN bN .nil pass0 (pa_cons (pv 2) (pa_cons (pe_op op_add pe_int (pe_call GT hr1 rfl mT kT bT .nil pass0 (pa_cons (pv 2) (pa_cons pe_int pa_nil)))) pa_nil))))
        (pss_cons (ps_set (i := 4) scLaw.nd rfl (.inr rfl) (pe_op op_cat (pe_lc (own := [("_law_turn", 6)]) (g := gName 6) (tt := tYes) (te := tCall (spForm 4) [] E0 (tCons (tVar 2) (tCons (tVar 3) (tCons (tCall spTake [] E0 (tCons (tVar 2) (tCons (tC (.int 4)) tNil))) tNil)))) rfl scLaw.nd (pi_range1 (by rfl) zRange (pa_cons pe_int pa_nil)) (blkOk_by (N := nLaw) (sc := defScope sLaw) (by decide +kernel)) (fun _ _ _ _ _ => pg_name (i := 6) scLaw.nd rfl (Or.inl rfl)) (fun _ _ _ _ _ => pts_nil)
            (fun _ _ _ _ _ => pe_call GF hr6 rfl mF kF bF .nil pass0 (pa_cons (pv 2) (pa_cons (pv 3) (pa_cons (pe_call GT hr1 rfl mT kT bT .nil pass0 (pa_cons (pv 2) (pa_cons pe_int pa_nil))) pa_nil))))) (pe_call GG hr3 rfl mG kG bG .nil pass0 (pa_cons (pv 2) pa_nil))))
        (pss_cons (ps_set (i := 5) scLaw.nd rfl (.inl rfl) (pe_op op_cat (pv 4) (pe_lst (pa_cons pe_str (pa_cons pe_str (pa_cons pe_str (pa_cons pe_str (pa_cons pe_str (pa_cons pe_str (pa_cons pe_str (pa_cons pe_str (pa_cons pe_non (pa_cons (pe_tup pa_nil) (pa_cons (pe_tup (pa_cons pe_str pa_nil)) (pa_cons (pe_tup (pa_cons pe_str pa_nil)) pa_nil)))))))))))))))
        (pss_cons (ps_set (i := 5) scLaw.nd rfl (.inl rfl) (pe_op op_cat (pv 5) (pe_lst (pa_cons (pe_tup (pa_cons pe_str (pa_cons pe_str (pa_cons pe_str pa_nil)))) (pa_cons (pe_tup (pa_cons pe_str (pa_cons (pe_tup (pa_cons pe_str pa_nil)) (pa_cons (pe_tup (pa_cons pe_str pa_nil)) pa_nil)))) (pa_cons (pe_lstN (pa_cons pe_str pa_nil)) (pa_cons (pe_tup (pa_cons pe_str (pa_cons pe_non pa_nil))) (pa_cons (pe_tup (pa_cons pe_str pa_nil)) pa_nil))))))))
        (pss_cons (ps_set (i := 5) scLaw.nd rfl (.inl rfl) (pe_op op_cat (pv 5) (pe_lc (own := [("_law_turn", 6)]) (g := gName 6) (tt := tYes) (te := tCall (spBent 6) [] E0 (tCons (tVar 2) (tCons (tCall (spOf K) [] E0 (tCons (tVar 2) (tCons (tVar 4) tNil))) (tCons (tC (.int 5)) tNil)))) rfl scLaw.nd (pi_range1 (by rfl) zRange (pa_cons pe_int pa_nil)) (blkOk_by (N := nLaw) (sc := defScope sLaw) (by decide +kernel)) (fun _ _ _ _ _ => pg_name (i := 6) scLaw.nd rfl (Or.inl rfl)) (fun _ _ _ _ _ => pts_nil)
            (fun _ _ _ _ _ => pe_call GB hr9 rfl mB kB bB .nil pass0 (pa_cons (pv 2) (pa_cons (pe_call GO hr2 rfl mO kO bO .nil pass0 (pa_cons (pv 2) (pa_cons (pv 4) pa_nil))) (pa_cons pe_int pa_nil)))))))
        (pss_one (ps_if (pt_not (pt_val (pe_callB (cr_all rfl) (by rfl) zAll PyProof.Rows.boot_all (pa_cons (pe_lc (own := [("_law_thing", 7)]) (g := gName 7) (tt := tYes) (te := tCall spRight [] E0 (tCons (tVar 7) tNil)) rfl scLaw.nd
            (pi_list (pe_op op_cat (pv 5) (pe_lc (own := [("_law_turn", 6)]) (g := gName 6) (tt := tYes) (te := tCall spOdd [] E0 (tCons (tVar 2) tNil)) rfl scLaw.nd (pi_range1 (by rfl) zRange (pa_cons pe_int pa_nil)) (blkOk_by (N := nLaw) (sc := defScope sLaw) (by decide +kernel)) (fun _ _ _ _ _ => pg_name (i := 6) scLaw.nd rfl (Or.inl rfl)) (fun _ _ _ _ _ => pts_nil) (fun _ _ _ _ _ => pe_call GD hr3 rfl mD kD bD .nil pass0 (pa_cons (pv 2) pa_nil)))))
            (blkOk_by (N := nLaw) (sc := defScope sLaw) (by decide +kernel)) (fun _ _ _ _ _ => pg_name (i := 7) scLaw.nd rfl (Or.inl rfl)) (fun _ _ _ _ _ => pts_nil) (fun _ _ _ _ _ => pe_callG GR gd hr rfl mR kR bR .nil pass0 (pa_cons (pv 7) pa_nil))) pa_nil)))) (pss_one (ps_ret pe_bl)) pss_nil)))))))))
      (pss_one (ps_ret pe_bl)), ?_⟩
    have most : ∃ n : Int, (if (if ((ns.map V.int).length : Int) < 3 then ((ns.map V.int).length : Int) else 3) > 1 then (if ((ns.map V.int).length : Int) < 3 then ((ns.map V.int).length : Int) else 3) else 1) = n ∧ 0 ≤ n ∧ n ≤ 3 := by
      refine ⟨_, rfl, ?_, ?_⟩
      · split <;> omega
      · split <;> split <;> omega
    obtain ⟨n, en, n0, n3⟩ := most
    refine ⟨_, rfl, a, _, rfl, .inl hS, _, _, rfl, _, _, rfl, _, rfl, ?_, ?_, ?_⟩
    · rw [en]; omega
    · rw [en]; omega
    rw [en]
    refine for_range (n := n.toNat) (fun i σ Hc => ∃ o1 o2 o3 o4 o5 o6 o7 : Option V, σ = [some (.ref a), o1, o2, o3, o4, o5, o6, o7] ∧ Same H Hc) ⟨_, _, _, _, _, _, _, rfl, Same.refl _⟩ ?_ ?_
    · rintro i σ Hc hi ⟨o1, o2, o3, o4, o5, o6, o7, rfl, s0⟩
      refine ⟨_, rfl, _, rfl, a, ns, _, rfl, s0.seq hS, by omega, by omega, fun H1 p h1 => ?_⟩
      refine ⟨_, rfl, _, rfl, Hc, p, 0, 8, rfl, by decide, by decide, by decide, h1, fun H2 d d0 d1 h2 => ?_⟩
      obtain ⟨c, rfl⟩ := Int.eq_ofNat_of_zero_le d0
      refine ⟨_, _, rfl, rfl, Hc, p, 1, 1 + c, ?_, by decide, h2, fun G1 H3 l xs s3 h3 el sub lx => ?_⟩
      · show [V.ref p, V.int (1 + ((c : Nat) : Int))] = [V.ref p, V.int ((1 + c : Nat) : Int)]
        rw [Int.natCast_add]
        rfl
      obtain ⟨okx, lx10⟩ := sub_ten sub
      refine ⟨8, rfl, by decide, by decide, fun D nD => ?_⟩
      obtain ⟨hL, sL⟩ := h3.lay (.lst []) nD
      have nD1 : G1 D = none := h3.1.free nD
      refine lc_range (n := 8) (fun i Hc => ∃ (G : Hp) (vs : List V) (fs : List Fm), Same G1 G ∧ Hand G Hc p (20 + i * 300) ∧ G D = some (.lst vs) ∧ vs.length = i ∧ FmAll G vs fs ∧ ∀ f ∈ fs, Ok f ∧ (subs f).length ≤ 64 ∧ tall f ≤ 4) ?_ ?_ ?_
      · exact ⟨_, [], [], sL, hL.mono (by decide), upd_same, rfl, .nil, fun _ h => absurd h List.not_mem_nil⟩
      · rintro j Hd hj ⟨G, vs, fs, s4, h4, e4, l4, a4, g4⟩
        refine ⟨rfl, _, rfl, _, rfl, _, rfl, G, p, 20 + j * 300, 4, rfl, by decide, by decide, by omega, h4, fun He dd d0 d1 h6 => ?_⟩
        obtain ⟨dd, rfl⟩ := Int.eq_ofNat_of_zero_le d0
        have pw := pow_three (d := dd) (by omega)
        refine ⟨G, p, l, xs, 20 + j * 300 + 1, dd, rfl, by omega, by omega, by omega, h6, s4 _ _ el, okx, by omega, fun Gb Hf v g s7 h7 a7 q7 z7 t7 => ?_⟩
        have e7 := s7 _ _ e4
        refine ⟨vs, h7.here e7, ?_, upd Gb D (.lst (vs ++ [v])), vs ++ [v], fs ++ [g], fun b o kb => ?_, (h7.upd (h7.apart e7)).mono ?_, upd_same, ?_, (a4.mono (s7.toT.trans (sameT_lst e7))).append (.cons (a7.mono (sameT_lst e7)) .nil), fun f hf => ?_⟩
        · rw [l4]
          exact Nat.lt_of_lt_of_le hj (by decide)
        · rw [upd_ne (ne_of_none kb nD1)]
          exact s7 _ _ (s4 _ _ kb)
        · omega
        · rw [List.length_append, l4]
          rfl
        · rcases List.mem_append.mp hf with hf | hf
          · exact g4 f hf
          · rw [List.mem_singleton.mp hf]
            exact ⟨q7, by omega, by omega⟩
      · rintro Hd ⟨G, vs, fs, s4, h4, e4, l4, a4, g4⟩
        refine ⟨_, rfl, G, p, _, rfl, by omega, h4, fun G2 H5 rg us ds sG hG eg lg ag sg => ?_⟩
        refine ⟨D, rg, vs, us, rfl, rfl, hG.here (sG _ _ e4), hG.here eg, ?_, fun rs nrs => ?_⟩
        · rw [l4, lg]
          show 8 + 7 ≤ sizeLine
          decide
        obtain ⟨h5, s5⟩ := hG.lay (.lst (vs ++ us)) nrs
        have es : upd G2 rs (.lst (vs ++ us)) rs = some (.lst (vs ++ us)) := upd_same
        have ls : (vs ++ us).length = 15 := by rw [List.length_append, l4, lg]
        have as := ((a4.das.mono sG).append ag).mono s5
        have gs : ∀ d ∈ datAll fs ++ ds, Shows d 20000 14 := fun d hd => (List.mem_append.mp hd).elim (dat_shows g4 d) (sg d)
        have S5 := s3.trans (s4.trans (sG.trans s5))
        generalize upd G2 rs (.lst (vs ++ us)) = G3 at h5 s5 es as S5
        generalize upd H5 rs (.lst (vs ++ us)) = H6 at h5 ⊢
        generalize vs ++ us = ss at es ls as
        generalize datAll fs ++ ds = dss at as gs
        clear a4 g4 ag sg h4 hG e4 eg
        -- the first further things
        refine ⟨_, rfl, Nat.zero_le _, fun q1 m1 => ?_⟩
        obtain ⟨k1, z1⟩ := h5.lay (.tup []) m1
        have w1 : Da (upd G3 q1 (.tup [])) (.ref q1) (.tuple []) := .tup upd_same .nil
        generalize upd G3 q1 (.tup []) = M1 at k1 z1 w1
        generalize upd H6 q1 (.tup []) = N1 at k1 ⊢
        refine ⟨(by show 1 ≤ sizeLine; decide), fun q2 m2 => ?_⟩
        obtain ⟨k2, z2⟩ := k1.lay (.tup [.str "feature"]) m2
        have w2 : Da (upd M1 q2 (.tup [.str "feature"])) (.ref q2) (.tuple [.str "feature"]) := .tup upd_same (.cons (.str _) .nil)
        generalize upd M1 q2 (.tup [.str "feature"]) = M2 at k2 z2 w2
        generalize upd N1 q2 (.tup [.str "feature"]) = N2 at k2 ⊢
        refine ⟨(by show 1 ≤ sizeLine; decide), fun q3 m3 => ?_⟩
        obtain ⟨k3, z3⟩ := k2.lay (.tup [.str "none"]) m3
        have w3 : Da (upd M2 q3 (.tup [.str "none"])) (.ref q3) (.tuple [.str "none"]) := .tup upd_same (.cons (.str _) .nil)
        generalize upd M2 q3 (.tup [.str "none"]) = M3 at k3 z3 w3
        generalize upd N2 q3 (.tup [.str "none"]) = N3 at k3 ⊢
        refine ⟨(by show 12 ≤ sizeLine; decide), fun r1 m4 => ?_⟩
        obtain ⟨k4, z4⟩ := k3.lay (.lst [.str "", .str "a", .str "z", .str "abcdefgh", .str "abcdefghi", .str "aB", .str "a-", .str "ab ", .non, .ref q1, .ref q2, .ref q3]) m4
        have x4 : upd M3 r1 (.lst [.str "", .str "a", .str "z", .str "abcdefgh", .str "abcdefghi", .str "aB", .str "a-", .str "ab ", .non, .ref q1, .ref q2, .ref q3]) r1 = some (.lst [.str "", .str "a", .str "z", .str "abcdefgh", .str "abcdefghi", .str "aB", .str "a-", .str "ab ", .non, .ref q1, .ref q2, .ref q3]) := upd_same
        generalize upd M3 r1 (.lst [.str "", .str "a", .str "z", .str "abcdefgh", .str "abcdefghi", .str "aB", .str "a-", .str "ab ", .non, .ref q1, .ref q2, .ref q3]) = M4 at k4 z4 x4
        generalize upd N3 r1 (.lst [.str "", .str "a", .str "z", .str "abcdefgh", .str "abcdefghi", .str "aB", .str "a-", .str "ab ", .non, .ref q1, .ref q2, .ref q3]) = N4 at k4 ⊢
        have Z4 := z1.trans (z2.trans (z3.trans z4))
        refine ⟨rs, r1, ss, _, rfl, rfl, k4.here (Z4 _ _ es), k4.here x4, ?_, fun r2 m5 => ?_⟩
        · rw [ls]
          show 15 + 12 ≤ sizeLine
          decide
        have al5 : DaAll M4 (ss ++ [.str "", .str "a", .str "z", .str "abcdefgh", .str "abcdefghi", .str "aB", .str "a-", .str "ab ", .non, .ref q1, .ref q2, .ref q3]) (dss ++ [.str "", .str "a", .str "z", .str "abcdefgh", .str "abcdefghi", .str "aB", .str "a-", .str "ab ", .none, .tuple [], .tuple [.str "feature"], .tuple [.str "none"]]) :=
          (as.mono Z4).append (.cons (.str _) (.cons (.str _) (.cons (.str _) (.cons (.str _) (.cons (.str _) (.cons (.str _) (.cons (.str _) (.cons (.str _) (.cons .non (.cons (w1.mono (z2.trans (z3.trans z4))) (.cons (w2.mono (z3.trans z4)) (.cons (w3.mono z4) .nil))))))))))))
        have fit5 : ∀ d ∈ dss ++ [.str "", .str "a", .str "z", .str "abcdefgh", .str "abcdefghi", .str "aB", .str "a-", .str "ab ", .none, .tuple [], .tuple [.str "feature"], .tuple [.str "none"]], Fits d := fun d hd => by
          rcases List.mem_append.mp hd with hd | hd
          · exact (gs d hd).more (by decide) (by decide)
          · simp only [List.mem_cons, List.not_mem_nil, or_false] at hd
            rcases hd with rfl | rfl | rfl | rfl | rfl | rfl | rfl | rfl | rfl | rfl | rfl | rfl
            all_goals exact ⟨by decide +kernel, by decide +kernel, by decide +kernel⟩
        have l5 : (ss ++ [.str "", .str "a", .str "z", .str "abcdefgh", .str "abcdefghi", .str "aB", .str "a-", .str "ab ", .non, .ref q1, .ref q2, .ref q3] : List V).length = 27 := by rw [List.length_append, ls]; rfl
        generalize dss ++ [.str "", .str "a", .str "z", .str "abcdefgh", .str "abcdefghi", .str "aB", .str "a-", .str "ab ", .none, .tuple [], .tuple [.str "feature"], .tuple [.str "none"]] = d5 at al5 fit5
        generalize (ss ++ [.str "", .str "a", .str "z", .str "abcdefgh", .str "abcdefghi", .str "aB", .str "a-", .str "ab ", .non, .ref q1, .ref q2, .ref q3] : List V) = v5 at al5 l5 ⊢
        obtain ⟨k5, z5⟩ := k4.lay (.lst v5) m5
        have x5 : upd M4 r2 (.lst v5) r2 = some (.lst v5) := upd_same
        generalize upd M4 r2 (.lst v5) = M5 at k5 z5 x5
        generalize upd N4 r2 (.lst v5) = N5 at k5 ⊢
        have A5 := al5.mono z5
        have as5 := as.mono (Z4.trans z5)
        have es5 := (Z4.trans z5) _ _ es
        have S6 := S5.trans (Z4.trans z5)
        clear w1 w2 w3 k1 k2 k3 k4 z1 z2 z3 z4 Z4 x4 al5 as es
        -- the second
        refine ⟨_, rfl, (by show 3 ≤ sizeLine; decide), fun q1 m1 => ?_⟩
        obtain ⟨k1, z1⟩ := k5.lay (.tup [.str "feature", .str "a", .str "b"]) m1
        have w1 : Da (upd M5 q1 (.tup [.str "feature", .str "a", .str "b"])) (.ref q1) (.tuple [.str "feature", .str "a", .str "b"]) := .tup upd_same (.cons (.str _) (.cons (.str _) (.cons (.str _) .nil)))
        generalize upd M5 q1 (.tup [.str "feature", .str "a", .str "b"]) = M1 at k1 z1 w1
        generalize upd N5 q1 (.tup [.str "feature", .str "a", .str "b"]) = N1 at k1 ⊢
        refine ⟨(by show 1 ≤ sizeLine; decide), fun q2 m2 => ?_⟩
        obtain ⟨k2, z2⟩ := k1.lay (.tup [.str "all"]) m2
        have w2 : Da (upd M1 q2 (.tup [.str "all"])) (.ref q2) (.tuple [.str "all"]) := .tup upd_same (.cons (.str _) .nil)
        generalize upd M1 q2 (.tup [.str "all"]) = M2 at k2 z2 w2
        generalize upd N1 q2 (.tup [.str "all"]) = N2 at k2 ⊢
        refine ⟨(by show 1 ≤ sizeLine; decide), fun q3 m3 => ?_⟩
        obtain ⟨k3, z3⟩ := k2.lay (.tup [.str "any"]) m3
        have w3 : Da (upd M2 q3 (.tup [.str "any"])) (.ref q3) (.tuple [.str "any"]) := .tup upd_same (.cons (.str _) .nil)
        generalize upd M2 q3 (.tup [.str "any"]) = M3 at k3 z3 w3
        generalize upd N2 q3 (.tup [.str "any"]) = N3 at k3 ⊢
        refine ⟨(by show 3 ≤ sizeLine; decide), fun q4 m4 => ?_⟩
        obtain ⟨k4, z4⟩ := k3.lay (.tup [.str "not", .ref q2, .ref q3]) m4
        have w4 : Da (upd M3 q4 (.tup [.str "not", .ref q2, .ref q3])) (.ref q4) (.tuple [.str "not", .tuple [.str "all"], .tuple [.str "any"]]) := .tup upd_same (.cons (.str _) (.cons (w2.mono (z3.trans z4)) (.cons (w3.mono z4) .nil)))
        generalize upd M3 q4 (.tup [.str "not", .ref q2, .ref q3]) = M4 at k4 z4 w4
        generalize upd N3 q4 (.tup [.str "not", .ref q2, .ref q3]) = N4 at k4 ⊢
        refine ⟨(by show 1 ≤ sizeLine; decide), fun q6 m6 u6 => ?_⟩
        obtain ⟨k6, z6⟩ := k4.lay (.lst [.str "all"]) m6
        have w6 : Da (upd M4 q6 (.lst [.str "all"])) (.ref q6) (.list [.str "all"]) := .lst upd_same u6 (.cons (.str _) .nil)
        generalize upd M4 q6 (.lst [.str "all"]) = M6 at k6 z6 w6
        generalize upd N4 q6 (.lst [.str "all"]) = N6 at k6 ⊢
        refine ⟨(by show 2 ≤ sizeLine; decide), fun q7 m7 => ?_⟩
        obtain ⟨k7, z7⟩ := k6.lay (.tup [.str "all", .non]) m7
        have w7 : Da (upd M6 q7 (.tup [.str "all", .non])) (.ref q7) (.tuple [.str "all", .none]) := .tup upd_same (.cons (.str _) (.cons .non .nil))
        generalize upd M6 q7 (.tup [.str "all", .non]) = M7 at k7 z7 w7
        generalize upd N6 q7 (.tup [.str "all", .non]) = N7 at k7 ⊢
        refine ⟨(by show 1 ≤ sizeLine; decide), fun q8 m8 => ?_⟩
        obtain ⟨k8, z8⟩ := k7.lay (.tup [.str "All"]) m8
        have w8 : Da (upd M7 q8 (.tup [.str "All"])) (.ref q8) (.tuple [.str "All"]) := .tup upd_same (.cons (.str _) .nil)
        generalize upd M7 q8 (.tup [.str "All"]) = M8 at k8 z8 w8
        generalize upd N7 q8 (.tup [.str "All"]) = N8 at k8 ⊢
        refine ⟨(by show 5 ≤ sizeLine; decide), fun r3 m9 => ?_⟩
        obtain ⟨k9, z9⟩ := k8.lay (.lst [.ref q1, .ref q4, .ref q6, .ref q7, .ref q8]) m9
        have x9 : upd M8 r3 (.lst [.ref q1, .ref q4, .ref q6, .ref q7, .ref q8]) r3 = some (.lst [.ref q1, .ref q4, .ref q6, .ref q7, .ref q8]) := upd_same
        generalize upd M8 r3 (.lst [.ref q1, .ref q4, .ref q6, .ref q7, .ref q8]) = M9 at k9 z9 x9
        generalize upd N8 r3 (.lst [.ref q1, .ref q4, .ref q6, .ref q7, .ref q8]) = N9 at k9 ⊢
        have Z9 := z1.trans (z2.trans (z3.trans (z4.trans (z6.trans (z7.trans (z8.trans z9))))))
        refine ⟨r2, r3, v5, _, rfl, rfl, k9.here (Z9 _ _ x5), k9.here x9, ?_, fun r4 m10 => ?_⟩
        · rw [l5]
          show 27 + 5 ≤ sizeLine
          decide
        have al6 : DaAll M9 (v5 ++ [.ref q1, .ref q4, .ref q6, .ref q7, .ref q8]) (d5 ++ [.tuple [.str "feature", .str "a", .str "b"], .tuple [.str "not", .tuple [.str "all"], .tuple [.str "any"]], .list [.str "all"], .tuple [.str "all", .none], .tuple [.str "All"]]) :=
          (A5.mono Z9).append (.cons (w1.mono (z2.trans (z3.trans (z4.trans (z6.trans (z7.trans (z8.trans z9))))))) (.cons (w4.mono (z6.trans (z7.trans (z8.trans z9)))) (.cons (w6.mono (z7.trans (z8.trans z9))) (.cons (w7.mono (z8.trans z9)) (.cons (w8.mono z9) .nil)))))
        have fit6 : ∀ d ∈ d5 ++ [.tuple [.str "feature", .str "a", .str "b"], .tuple [.str "not", .tuple [.str "all"], .tuple [.str "any"]], .list [.str "all"], .tuple [.str "all", .none], .tuple [.str "All"]], Fits d := fun d hd => by
          rcases List.mem_append.mp hd with hd | hd
          · exact fit5 d hd
          · simp only [List.mem_cons, List.not_mem_nil, or_false] at hd
            rcases hd with rfl | rfl | rfl | rfl | rfl
            all_goals exact ⟨by decide +kernel, by decide +kernel, by decide +kernel⟩
        have l6 : (v5 ++ [.ref q1, .ref q4, .ref q6, .ref q7, .ref q8] : List V).length = 32 := by rw [List.length_append, l5]; rfl
        generalize d5 ++ [.tuple [.str "feature", .str "a", .str "b"], .tuple [.str "not", .tuple [.str "all"], .tuple [.str "any"]], .list [.str "all"], .tuple [.str "all", .none], .tuple [.str "All"]] = d6 at al6 fit6
        generalize (v5 ++ [.ref q1, .ref q4, .ref q6, .ref q7, .ref q8] : List V) = v6 at al6 l6 ⊢
        obtain ⟨k10, z10⟩ := k9.lay (.lst v6) m10
        have x10 : upd M9 r4 (.lst v6) r4 = some (.lst v6) := upd_same
        generalize upd M9 r4 (.lst v6) = M10 at k10 z10 x10
        generalize upd N9 r4 (.lst v6) = N10 at k10 ⊢
        have A6 := al6.mono z10
        have as6 := as5.mono (Z9.trans z10)
        have es6 := (Z9.trans z10) _ _ es5
        have S7 := S6.trans (Z9.trans z10)
        clear w1 w2 w3 w4 w6 w7 w8 k1 k2 k3 k4 k5 k6 k7 k8 k9 z1 z2 z3 z4 z6 z7 z8 z9 Z9 x9 al6 as5 es5 A5 fit5 x5
        -- things otherwise
        have mono : ∀ A B : Hp, Same A B → True → True := fun _ _ _ _ => trivial
        refine ⟨_, rfl, 40, rfl, by decide, by decide, fun D2 nD2 => ?_⟩
        have gq0 := Gq.start (c := 4000) (k10.mono (by omega)) nD2
        refine lc_range (n := 40) (fun i Hx => Gq M10 p D2 (fun _ => True) Hx (4000 + i * 300) i) gq0 ?_ ?_
        · rintro j Hx hj g
          obtain ⟨dp, hc, sB, _, ws, ds', eD, lD, aD, shD⟩ := id g
          refine ⟨rfl, _, rfl, _, rfl, _, rfl, delH Hx p, p, rs, 4000 + j * 300, ss, rfl, SqL.of (bs_sub _ _ (sB _ _ es6)), (fun z => by rw [z] at ls; cases ls), by omega, by omega, hc, fun Hy v hv hy => ?_⟩
          have g1 := g.call mono hy
          obtain ⟨dp1, hc1, sB1, _, ws1, ds1, eD1, lD1, aD1, shD1⟩ := id g1
          obtain ⟨dv, hdv, dav⟩ := as6.mem hv
          refine ⟨delH Hy p, Bs Hy p D2, p, v, dv, 4000 + j * 300 + 1, 5, 20000, 14, rfl, by decide, by decide, by omega, hc1, bs_sub, dav.mono sB1, gs dv hdv, by decide, by decide, fun B Hz Z1 v' d' s2 h2 zB dv' sd => ?_⟩
          have g2 := g1.call mono (h2.less s2)
          have eDB : B D2 = some (.lst ws1) := s2 _ _ (by rw [delH_ne dp1]; exact eD1)
          have sZ : Same Z1 (Bs Hz p D2) := fun b o kb => by
            have kB := zB.2.1 b o kb
            have bp : b ≠ p := fun z => by rw [z, h2.2.1] at kB; cases kB
            have bD : b ≠ D2 := fun z => by
              rw [z] at kb kB
              obtain ⟨ys, rfl⟩ := zB.2.2 D2 (by rw [delH_ne dp1, eD1]; exact fun t => nomatch t) (by unfold Bs; exact delH_same) o kb
              rw [eDB] at kB
              cases kB
            exact bs_at bp bD (h2.1 _ _ kB)
          obtain ⟨us', el', len', g3⟩ := g2.push mono (dv'.mono sZ) (sd.more (by decide) (by decide))
          refine ⟨us', el', ?_, g3.more (by omega)⟩
          rw [len']
          exact Nat.lt_of_lt_of_le hj (by decide)
        · rintro Hx g
          obtain ⟨dp, hc, sB, _, ws, dws, eD, lD, aD, shD⟩ := id g
          have sG' : Same M10 (delH Hx p) := sB.trans bs_sub
          refine ⟨r4, D2, v6, ws, rfl, rfl, hc.here (sG' _ _ x10), eD, ?_, fun r5 n5 => ?_⟩
          · rw [l6, lD]
            show 32 + 40 ≤ sizeLine
            decide
          have al7 := (A6.mono sG').append (aD.mono bs_sub)
          have fit7 : ∀ d ∈ d6 ++ dws, Fits d := fun d hd => (List.mem_append.mp hd).elim (fit6 d) fun h => (shD d h).more (by decide) (by decide)
          have l7 : (v6 ++ ws).length = 72 := by rw [List.length_append, l6, lD]
          generalize d6 ++ dws = d7 at al7 fit7
          generalize v6 ++ ws = v7 at al7 l7 ⊢
          obtain ⟨k11, z11⟩ := hc.lay (.lst v7) n5
          have x11 : upd (delH Hx p) r5 (.lst v7) r5 = some (.lst v7) := upd_same
          have A7 := al7.mono z11
          have S8 := S7.trans (sG'.trans z11)
          generalize upd (delH Hx p) r5 (.lst v7) = M11 at k11 z11 x11 A7 S8
          generalize upd Hx r5 (.lst v7) = N11 at k11 ⊢
          clear g gq0 hc sB aD shD eD al7 A6 as6 es6 x10 k10 fit6 sG'
          -- objects of many kinds
          refine ⟨_, rfl, 6, rfl, by decide, by decide, fun D3 nD3 => ?_⟩
          have gq1 := Gq.start (c := 20000) (k11.mono (by omega)) nD3
          refine lc_range (n := 6) (fun i Hx => Gq M11 p D3 (fun _ => True) Hx (20000 + i * 300) i) gq1 ?_ ?_
          · rintro j Hx hj g
            obtain ⟨dp, hc, sB, _, ws, ds', eD, lD, aD, shD⟩ := id g
            refine ⟨rfl, _, rfl, delH Hx p, p, 20000 + j * 300, rfl, by omega, hc, fun Hy Hz v d s1 h1 Z z dv sd => ?_⟩
            have g1 := g.call mono (h1.less s1)
            have sZ : Same Z (Bs Hz p D3) := fun b o kb => by
              have kB := z.1 b o kb
              have bp : b ≠ p := fun t => by rw [t, h1.2.1] at kB; cases kB
              have bD : b ≠ D3 := fun t => by
                have := z.2 D3 (by rw [delH_ne dp, eD]; exact fun t => nomatch t)
                rw [t, this] at kb
                cases kb
              exact bs_at bp bD (h1.1 _ _ kB)
            obtain ⟨us', el', len', g3⟩ := g1.push mono (dv.mono sZ) (sd.more (by decide) (by decide))
            refine ⟨us', el', ?_, g3.more (by omega)⟩
            rw [len']
            exact Nat.lt_of_lt_of_le hj (by decide)
          · rintro Hx g
            obtain ⟨dp, hc, sB, _, ws, dws, eD, lD, aD, shD⟩ := id g
            have sG' : Same M11 (delH Hx p) := sB.trans bs_sub
            refine ⟨r5, D3, v7, ws, rfl, rfl, hc.here (sG' _ _ x11), eD, ?_, fun r6 n6 => ?_⟩
            · rw [l7, lD]
              show 72 + 6 ≤ sizeLine
              decide
            have al8 := (A7.mono sG').append (aD.mono bs_sub)
            have fit8 : ∀ d ∈ d7 ++ dws, Fits d := fun d hd => (List.mem_append.mp hd).elim (fit7 d) fun h => (shD d h).more (by decide) (by decide)
            have l8 : (v7 ++ ws).length = 78 := by rw [List.length_append, l7, lD]
            generalize d7 ++ dws = d8 at al8 fit8
            generalize v7 ++ ws = v8 at al8 l8 ⊢
            have sX := same_new (o := .lst v8) n6
            have x12 : upd Hx r6 (.lst v8) r6 = some (.lst v8) := upd_same
            have A8 := al8.mono (hc.1.trans sX)
            have S9 := S8.trans (sG'.trans (hc.1.trans sX))
            generalize upd Hx r6 (.lst v8) = N12 at sX x12 A8 S9 ⊢
            refine ⟨r6, rfl, ⟨_, SqL.of x12⟩, fun D4 nD4 => ?_⟩
            refine lc_list (xs := v8) (fun j Hy => Same N12 Hy ∧ Hy D4 = some (.lst ((List.replicate j true).map V.bl))) ⟨same_new nD4, upd_same⟩ (fun j Hy _ h => SqL.of (h.1 _ _ x12)) ?_ ?_
            · rintro j x Hy hx ⟨sy, ey⟩
              obtain ⟨dx, hdx, dax⟩ := A8.get hx
              have lj : j < v8.length := (List.getElem?_eq_some_iff.mp hx).1
              refine ⟨rfl, _, rfl, x, dx, rfl, dax.mono sy, fit8 dx (List.mem_of_getElem? hdx), fun Hz sz => ?_⟩
              refine ⟨_, sz _ _ ey, ?_, fun b o kb => ?_, ?_⟩
              · rw [List.length_map, List.length_replicate]
                exact Nat.lt_of_lt_of_le (show j < 78 by omega) (by decide)
              · rw [upd_ne (ne_of_none kb nD4)]
                exact sz _ _ (sy _ _ kb)
              · rw [upd_same, snoc_true]
            · rintro Hy ⟨sy, ey⟩
              refine ⟨D4, _, rfl, SqL.of ey, _, rfl, ?_⟩
              rw [all_true]
              exact iteF ⟨_, _, _, _, _, _, _, rfl, s0.trans (S9.trans sy)⟩
    · rintro σ Hc ⟨o1, o2, o3, o4, o5, o6, o7, rfl, s0⟩
      exact q Hc
end
end L2.Fu
/-! ## What the top has written, and the end -/
namespace L2.Fu
open PySem PySem.Spec PyProof.Rows
open PySem.W (Frag findIn subIn typeIn keepIn hasDictIn specialIn takesIn mroIn kitOne excIn nsIn codeIn)
theorem all_mk {l : PySem.W.OpenLaw} {w : World} {K : Frag} {h : Heap} {mg : Str → Option Value} {fa : Addr} {fName fOuter fParts fIsForm fHand fTake fOf fNames fForm fOdd fBent fLName fCount fGreat fRight fLaw : Addr} {tLETTERS : Tok} {tLONGEST_NAME : Tok} {tMOST_FORMULAS : Tok} {tDEEPEST_FORMULA : Tok}
    {odName anName odOuter anOuter odParts anParts odIsForm anIsForm odHand anHand odTake anTake odOf anOf odNames anNames odForm anForm odOdd anOdd odBent anBent odLName anLName odCount anCount odGreat anGreat odRight anRight odLaw anLaw : Option Addr}
    {slName slOuter slParts slIsForm slHand slTake slOf slNames slForm slOdd slBent slLName slCount slGreat slRight slLaw : Array (Option Value)}
    {ocName kVName dcName pmName cdName ctName ocOuter kVOuter dcOuter pmOuter cdOuter ctOuter ocParts kVParts dcParts pmParts cdParts ctParts ocIsForm kVIsForm dcIsForm pmIsForm cdIsForm ctIsForm ocHand kVHand dcHand pmHand cdHand ctHand ocTake kVTake dcTake pmTake cdTake ctTake ocOf kVOf dcOf pmOf cdOf ctOf ocNames kVNames dcNames pmNames cdNames ctNames ocForm kVForm dcForm pmForm cdForm ctForm ocOdd kVOdd dcOdd pmOdd cdOdd ctOdd ocBent kVBent dcBent pmBent cdBent ctBent ocLName kVLName dcLName pmLName cdLName ctLName ocCount kVCount dcCount pmCount cdCount ctCount ocGreat kVGreat dcGreat pmGreat cdGreat ctGreat ocRight kVRight dcRight pmRight cdRight ctRight ocLaw kVLaw dcLaw pmLaw cdLaw ctLaw : Value}
    (X : K.In h) (G : h.Ns mainGlobals mg) (hfa : mg "law" = some (.ref fa))
    (aName : nsIn K mainGlobals "is_name" = some (some (.ref fName)))
    (lName : K.lookup fName = some ⟨ocName, odName, .func (PySem.W.fnOf "is_name" "is_name" (defArgs sName) (defBody sName) (defScope sName) .none kVName dcName pmName anName cdName ctName), slName⟩)
    (cName : codeIn K cdName "is_name" = true)
    (kName : keepIn K (.ref fName) = true)
    (aOuter : nsIn K mainGlobals "has_outer_form" = some (some (.ref fOuter)))
    (lOuter : K.lookup fOuter = some ⟨ocOuter, odOuter, .func (PySem.W.fnOf "has_outer_form" "has_outer_form" (defArgs sOuter) (defBody sOuter) (defScope sOuter) .none kVOuter dcOuter pmOuter anOuter cdOuter ctOuter), slOuter⟩)
    (cOuter : codeIn K cdOuter "has_outer_form" = true)
    (kOuter : keepIn K (.ref fOuter) = true)
    (aParts : nsIn K mainGlobals "parts_of" = some (some (.ref fParts)))
    (lParts : K.lookup fParts = some ⟨ocParts, odParts, .func (PySem.W.fnOf "parts_of" "parts_of" (defArgs sParts) (defBody sParts) (defScope sParts) .none kVParts dcParts pmParts anParts cdParts ctParts), slParts⟩)
    (cParts : codeIn K cdParts "parts_of" = true)
    (kParts : keepIn K (.ref fParts) = true)
    (aIsForm : nsIn K mainGlobals "is_formula" = some (some (.ref fIsForm)))
    (lIsForm : K.lookup fIsForm = some ⟨ocIsForm, odIsForm, .func (PySem.W.fnOf "is_formula" "is_formula" (defArgs sIsForm) (defBody sIsForm) (defScope sIsForm) .none kVIsForm dcIsForm pmIsForm anIsForm cdIsForm ctIsForm), slIsForm⟩)
    (cIsForm : codeIn K cdIsForm "is_formula" = true)
    (kIsForm : keepIn K (.ref fIsForm) = true)
    (aHand : nsIn K mainGlobals "_law_hand" = some (some (.ref fHand)))
    (lHand : K.lookup fHand = some ⟨ocHand, odHand, .func (PySem.W.fnOf "_law_hand" "_law_hand" (defArgs sHand) (defBody sHand) (defScope sHand) .none kVHand dcHand pmHand anHand cdHand ctHand), slHand⟩)
    (cHand : codeIn K cdHand "_law_hand" = true)
    (kHand : keepIn K (.ref fHand) = true)
    (aTake : nsIn K mainGlobals "_law_take" = some (some (.ref fTake)))
    (lTake : K.lookup fTake = some ⟨ocTake, odTake, .func (PySem.W.fnOf "_law_take" "_law_take" (defArgs sTake) (defBody sTake) (defScope sTake) .none kVTake dcTake pmTake anTake cdTake ctTake), slTake⟩)
    (cTake : codeIn K cdTake "_law_take" = true)
    (kTake : keepIn K (.ref fTake) = true)
    (aOf : nsIn K mainGlobals "_law_of" = some (some (.ref fOf)))
    (lOf : K.lookup fOf = some ⟨ocOf, odOf, .func (PySem.W.fnOf "_law_of" "_law_of" (defArgs sOf) (defBody sOf) (defScope sOf) .none kVOf dcOf pmOf anOf cdOf ctOf), slOf⟩)
    (cOf : codeIn K cdOf "_law_of" = true)
    (kOf : keepIn K (.ref fOf) = true)
    (aNames : nsIn K mainGlobals "_law_names" = some (some (.ref fNames)))
    (lNames : K.lookup fNames = some ⟨ocNames, odNames, .func (PySem.W.fnOf "_law_names" "_law_names" (defArgs sNames) (defBody sNames) (defScope sNames) .none kVNames dcNames pmNames anNames cdNames ctNames), slNames⟩)
    (cNames : codeIn K cdNames "_law_names" = true)
    (kNames : keepIn K (.ref fNames) = true)
    (aForm : nsIn K mainGlobals "_law_formula" = some (some (.ref fForm)))
    (lForm : K.lookup fForm = some ⟨ocForm, odForm, .func (PySem.W.fnOf "_law_formula" "_law_formula" (defArgs sForm) (defBody sForm) (defScope sForm) .none kVForm dcForm pmForm anForm cdForm ctForm), slForm⟩)
    (cForm : codeIn K cdForm "_law_formula" = true)
    (kForm : keepIn K (.ref fForm) = true)
    (aOdd : nsIn K mainGlobals "_law_odd" = some (some (.ref fOdd)))
    (lOdd : K.lookup fOdd = some ⟨ocOdd, odOdd, .func (PySem.W.fnOf "_law_odd" "_law_odd" (defArgs sOdd) (defBody sOdd) (defScope sOdd) .none kVOdd dcOdd pmOdd anOdd cdOdd ctOdd), slOdd⟩)
    (cOdd : codeIn K cdOdd "_law_odd" = true)
    (kOdd : keepIn K (.ref fOdd) = true)
    (aBent : nsIn K mainGlobals "_law_bent" = some (some (.ref fBent)))
    (lBent : K.lookup fBent = some ⟨ocBent, odBent, .func (PySem.W.fnOf "_law_bent" "_law_bent" (defArgs sBent) (defBody sBent) (defScope sBent) .none kVBent dcBent pmBent anBent cdBent ctBent), slBent⟩)
    (cBent : codeIn K cdBent "_law_bent" = true)
    (kBent : keepIn K (.ref fBent) = true)
    (aLName : nsIn K mainGlobals "_law_is_name" = some (some (.ref fLName)))
    (lLName : K.lookup fLName = some ⟨ocLName, odLName, .func (PySem.W.fnOf "_law_is_name" "_law_is_name" (defArgs sLName) (defBody sLName) (defScope sLName) .none kVLName dcLName pmLName anLName cdLName ctLName), slLName⟩)
    (cLName : codeIn K cdLName "_law_is_name" = true)
    (kLName : keepIn K (.ref fLName) = true)
    (aCount : nsIn K mainGlobals "_law_count" = some (some (.ref fCount)))
    (lCount : K.lookup fCount = some ⟨ocCount, odCount, .func (PySem.W.fnOf "_law_count" "_law_count" (defArgs sCount) (defBody sCount) (defScope sCount) .none kVCount dcCount pmCount anCount cdCount ctCount), slCount⟩)
    (cCount : codeIn K cdCount "_law_count" = true)
    (kCount : keepIn K (.ref fCount) = true)
    (aGreat : nsIn K mainGlobals "_law_great" = some (some (.ref fGreat)))
    (lGreat : K.lookup fGreat = some ⟨ocGreat, odGreat, .func (PySem.W.fnOf "_law_great" "_law_great" (defArgs sGreat) (defBody sGreat) (defScope sGreat) .none kVGreat dcGreat pmGreat anGreat cdGreat ctGreat), slGreat⟩)
    (cGreat : codeIn K cdGreat "_law_great" = true)
    (kGreat : keepIn K (.ref fGreat) = true)
    (aRight : nsIn K mainGlobals "_law_right" = some (some (.ref fRight)))
    (lRight : K.lookup fRight = some ⟨ocRight, odRight, .func (PySem.W.fnOf "_law_right" "_law_right" (defArgs sRight) (defBody sRight) (defScope sRight) .none kVRight dcRight pmRight anRight cdRight ctRight), slRight⟩)
    (cRight : codeIn K cdRight "_law_right" = true)
    (kRight : keepIn K (.ref fRight) = true)
    (aLaw : nsIn K mainGlobals "law" = some (some (.ref fLaw)))
    (lLaw : K.lookup fLaw = some ⟨ocLaw, odLaw, .func (PySem.W.fnOf "law" "law" (defArgs sLaw) (defBody sLaw) (defScope sLaw) .none kVLaw dcLaw pmLaw anLaw cdLaw ctLaw), slLaw⟩)
    (cLaw : codeIn K cdLaw "law" = true)
    (kLaw : keepIn K (.ref fLaw) = true)
    (g_LETTERS : nsIn K mainGlobals "LETTERS" = some (some (.str "abcdefghijklmnopqrstuvwxyz" tLETTERS)))
    (g_LONGEST_NAME : nsIn K mainGlobals "LONGEST_NAME" = some (some (.int 8 tLONGEST_NAME)))
    (g_MOST_FORMULAS : nsIn K mainGlobals "MOST_FORMULAS" = some (some (.int 400 tMOST_FORMULAS)))
    (g_DEEPEST_FORMULA : nsIn K mainGlobals "DEEPEST_FORMULA" = some (some (.int 10 tDEEPEST_FORMULA)))
    (z_len : nsIn K mainGlobals "len" = some none)
    (z_abs : nsIn K mainGlobals "abs" = some none)
    (z_int : nsIn K mainGlobals "int" = some none)
    (z_range : nsIn K mainGlobals "range" = some none)
    (z_max : nsIn K mainGlobals "max" = some none)
    (z_min : nsIn K mainGlobals "min" = some none)
    (z_tuple : nsIn K mainGlobals "tuple" = some none)
    (z_repr : nsIn K mainGlobals "repr" = some none)
    (z_isinstance : nsIn K mainGlobals "isinstance" = some none)
    (z_str : nsIn K mainGlobals "str" = some none)
    (z_all : nsIn K mainGlobals "all" = some none)
    (z_list : nsIn K mainGlobals "list" = some none)
    (z_sum : nsIn K mainGlobals "sum" = some none) :
    ∃ fd : FuncData, (∀ (s : Shared) (v : Value), BindsTo s fd ⟨[v], []⟩ [("_law_script", v)]) ∧ ∀ base : Heap, K.In base → base.Ns mainGlobals mg → FnG l.prog w K mg base CX0 14 fa fd ["_law_script"] (spLaw K) := by
  have e := hfa.symm.trans (PySem.W.mg_of X G aLaw)
  cases e
  have FName := fun_mk (st := sName) lName cName kName
  have FOuter := fun_mk (st := sOuter) lOuter cOuter kOuter
  have FParts := fun_mk (st := sParts) lParts cParts kParts
  have FIsForm := fun_mk (st := sIsForm) lIsForm cIsForm kIsForm
  have FHand := fun_mk (st := sHand) lHand cHand kHand
  have FTake := fun_mk (st := sTake) lTake cTake kTake
  have FOf := fun_mk (st := sOf) lOf cOf kOf
  have FNames := fun_mk (st := sNames) lNames cNames kNames
  have FForm := fun_mk (st := sForm) lForm cForm kForm
  have FOdd := fun_mk (st := sOdd) lOdd cOdd kOdd
  have FBent := fun_mk (st := sBent) lBent cBent kBent
  have FLName := fun_mk (st := sLName) lLName cLName kLName
  have FCount := fun_mk (st := sCount) lCount cCount kCount
  have FGreat := fun_mk (st := sGreat) lGreat cGreat kGreat
  have FRight := fun_mk (st := sRight) lRight cRight kRight
  have FLaw := fun_mk (st := sLaw) lLaw cLaw kLaw
  have bName := FName.binds (ps := ["thing"]) fun _ _ _ _ _ _ us hl => match us, hl with | [_], _ => rfl
  have bOuter := FOuter.binds (ps := ["thing"]) fun _ _ _ _ _ _ us hl => match us, hl with | [_], _ => rfl
  have bParts := FParts.binds (ps := ["formula"]) fun _ _ _ _ _ _ us hl => match us, hl with | [_], _ => rfl
  have bIsForm := FIsForm.binds (ps := ["thing"]) fun _ _ _ _ _ _ us hl => match us, hl with | [_], _ => rfl
  have bHand := FHand.binds (ps := ["_law_script", "_law_k"]) fun _ _ _ _ _ _ us hl => match us, hl with | [_, _], _ => rfl
  have bTake := FTake.binds (ps := ["_law_hand_here", "_law_many"]) fun _ _ _ _ _ _ us hl => match us, hl with | [_, _], _ => rfl
  have bOf := FOf.binds (ps := ["_law_hand_here", "_law_some"]) fun _ _ _ _ _ _ us hl => match us, hl with | [_, _], _ => rfl
  have bNames := FNames.binds (ps := ["_law_hand_here", "_law_count_here"]) fun _ _ _ _ _ _ us hl => match us, hl with | [_, _], _ => rfl
  have bForm := FForm.binds (ps := ["_law_hand_here", "_law_names_here", "_law_depth"]) fun _ _ _ _ _ _ us hl => match us, hl with | [_, _, _], _ => rfl
  have bOdd := FOdd.binds (ps := ["_law_hand_here"]) fun _ _ _ _ _ _ us hl => match us, hl with | [_], _ => rfl
  have bBent := FBent.binds (ps := ["_law_hand_here", "_law_thing", "_law_depth"]) fun _ _ _ _ _ _ us hl => match us, hl with | [_, _, _], _ => rfl
  have bLName := FLName.binds (ps := ["_law_thing"]) fun _ _ _ _ _ _ us hl => match us, hl with | [_], _ => rfl
  have bCount := FCount.binds (ps := ["_law_thing", "_law_depth"]) fun _ _ _ _ _ _ us hl => match us, hl with | [_, _], _ => rfl
  have bGreat := FGreat.binds (ps := ["_law_hand_here"]) fun _ _ _ _ _ _ us hl => match us, hl with | [_], _ => rfl
  have bRight := FRight.binds (ps := ["_law_thing"]) fun _ _ _ _ _ _ us hl => match us, hl with | [_], _ => rfl
  refine ⟨PySem.W.fnOf "law" "law" (defArgs sLaw) (defBody sLaw) (defScope sLaw) .none kVLaw dcLaw pmLaw anLaw cdLaw ctLaw, fun s v => .of_eq rfl, fun base _ _ => ?_⟩
  have GHand := ok_hand (P := l.prog) (w := w) (mg := mg) (base := base) FHand (PySem.W.mg_none_of X G z_len) (PySem.W.mg_none_of X G z_abs) (PySem.W.mg_none_of X G z_int)
  have GTake := ok_take (P := l.prog) (w := w) (mg := mg) (base := base) FTake
  have GOf := ok_of FOf GTake (PySem.W.mg_of X G aTake) kTake bTake (PySem.W.mg_none_of X G z_len)
  have GName := ok_name (P := l.prog) (w := w) (base := base) FName (PySem.W.mg_of X G g_LETTERS) (PySem.W.mg_of X G g_LONGEST_NAME) (PySem.W.mg_none_of X G z_isinstance) (PySem.W.mg_none_of X G z_str) (PySem.W.mg_none_of X G z_len) (PySem.W.mg_none_of X G z_all)
  have GOuter := ok_outer FOuter GName (PySem.W.mg_of X G aName) kName bName (PySem.W.mg_none_of X G z_isinstance) (PySem.W.mg_none_of X G z_str) (PySem.W.mg_none_of X G z_len) (PySem.W.mg_none_of X G z_tuple)
  have GParts := ok_partsD (P := l.prog) (w := w) (mg := mg) (base := base) FParts
  have GIsForm := ok_isForm FIsForm GOuter (PySem.W.mg_of X G aOuter) kOuter bOuter GParts (PySem.W.mg_of X G aParts) kParts bParts (PySem.W.mg_of X G g_DEEPEST_FORMULA) (PySem.W.mg_of X G g_MOST_FORMULAS) (PySem.W.mg_none_of X G z_len)
  have GNames := ok_names FNames GTake (PySem.W.mg_of X G aTake) kTake bTake (PySem.W.mg_none_of X G z_len)
  have GForm := ok_form FForm (PySem.W.mg_of X G aForm) kForm bForm GTake (PySem.W.mg_of X G aTake) kTake bTake GOf (PySem.W.mg_of X G aOf) kOf bOf (PySem.W.mg_none_of X G z_range) (PySem.W.mg_none_of X G z_tuple) 4
  have GOdd := ok_odd FOdd GOf (PySem.W.mg_of X G aOf) kOf bOf (PySem.W.mg_none_of X G z_range)
  have GBent := ok_bent FBent (PySem.W.mg_of X G aBent) kBent bBent GTake (PySem.W.mg_of X G aTake) kTake bTake GOf (PySem.W.mg_of X G aOf) kOf bOf GOdd (PySem.W.mg_of X G aOdd) kOdd bOdd (PySem.W.mg_none_of X G z_isinstance) (PySem.W.mg_none_of X G z_tuple) (PySem.W.mg_none_of X G z_len) (PySem.W.mg_none_of X G z_list) 6
  have GLName := ok_lname (P := l.prog) (w := w) (base := base) FLName (PySem.W.mg_none_of X G z_isinstance) (PySem.W.mg_none_of X G z_str) (PySem.W.mg_none_of X G z_len) (PySem.W.mg_none_of X G z_all)
  have GCount := ok_count FCount (PySem.W.mg_of X G aCount) kCount bCount GLName (PySem.W.mg_of X G aLName) kLName bLName (PySem.W.mg_none_of X G z_isinstance) (PySem.W.mg_none_of X G z_str) (PySem.W.mg_none_of X G z_len) (PySem.W.mg_none_of X G z_tuple) (PySem.W.mg_none_of X G z_sum) 11
  have GGreat := ok_great FGreat GTake (PySem.W.mg_of X G aTake) kTake bTake GOf (PySem.W.mg_of X G aOf) kOf bOf (PySem.W.mg_none_of X G z_range)
  have GRight := ok_right FRight GName (PySem.W.mg_of X G aName) kName bName GIsForm (PySem.W.mg_of X G aIsForm) kIsForm bIsForm GLName (PySem.W.mg_of X G aLName) kLName bLName GCount (PySem.W.mg_of X G aCount) kCount bCount (PySem.W.mg_none_of X G z_repr)
  exact ok_law FLaw GHand (PySem.W.mg_of X G aHand) kHand bHand GNames (PySem.W.mg_of X G aNames) kNames bNames GTake (PySem.W.mg_of X G aTake) kTake bTake GOf (PySem.W.mg_of X G aOf) kOf bOf GForm (PySem.W.mg_of X G aForm) kForm bForm GGreat (PySem.W.mg_of X G aGreat) kGreat bGreat GBent (PySem.W.mg_of X G aBent) kBent bBent GOdd (PySem.W.mg_of X G aOdd) kOdd bOdd GRight (PySem.W.mg_of X G aRight) kRight bRight (PySem.W.mg_none_of X G z_range) (PySem.W.mg_none_of X G z_max) (PySem.W.mg_none_of X G z_min) (PySem.W.mg_none_of X G z_len) (PySem.W.mg_none_of X G z_all)
end L2.Fu

open PySem PySem.W PyProof.Rows in
set_option maxRecDepth 100000 in
set_option maxHeartbeats 0 in
theorem PySem.Challenge.cw_featureunion_k01_formulas_of_anything_holds : PySem.Challenge.rw_featureunion_k01_formulas_of_anything.Holds := by
  w_on; o_law; k_head; (case hw => w_witness2)
  k_fill
  refine L2.Fu.endG (l := PySem.Challenge.rw_featureunion_k01_formulas_of_anything) (n := 63) (k := 14) (x := "_law_script") (sp := L2.Fu.spLaw) rfl (by decide) rfl ⟨rfl, by decide, by decide⟩ (fun w h Y => PySem.W.kIn_of Y) ?F (fun K H a ns hl _ hS => ⟨a, ns, rfl, hS, hl, fun _ => rfl⟩)
  case F =>
    intro w mg fa h KX G hmg
    refine' L2.Fu.all_mk KX G hmg ?aName ?lName ?cName ?kName ?aOuter ?lOuter ?cOuter ?kOuter ?aParts ?lParts ?cParts ?kParts ?aIsForm ?lIsForm ?cIsForm ?kIsForm ?aHand ?lHand ?cHand ?kHand ?aTake ?lTake ?cTake ?kTake ?aOf ?lOf ?cOf ?kOf ?aNames ?lNames ?cNames ?kNames ?aForm ?lForm ?cForm ?kForm ?aOdd ?lOdd ?cOdd ?kOdd ?aBent ?lBent ?cBent ?kBent ?aLName ?lLName ?cLName ?kLName ?aCount ?lCount ?cCount ?kCount ?aGreat ?lGreat ?cGreat ?kGreat ?aRight ?lRight ?cRight ?kRight ?aLaw ?lLaw ?cLaw ?kLaw ?g_LETTERS ?g_LONGEST_NAME ?g_MOST_FORMULAS ?g_DEEPEST_FORMULA ?z_len ?z_abs ?z_int ?z_range ?z_max ?z_min ?z_tuple ?z_repr ?z_isinstance ?z_str ?z_all ?z_list ?z_sum
    (case aName => k_is)
    (case lName => k_is)
    (case cName => k_is)
    (case kName => k_is)
    (case aOuter => k_is)
    (case lOuter => k_is)
    (case cOuter => k_is)
    (case kOuter => k_is)
    (case aParts => k_is)
    (case lParts => k_is)
    (case cParts => k_is)
    (case kParts => k_is)
    (case aIsForm => k_is)
    (case lIsForm => k_is)
    (case cIsForm => k_is)
    (case kIsForm => k_is)
    (case aHand => k_is)
    (case lHand => k_is)
    (case cHand => k_is)
    (case kHand => k_is)
    (case aTake => k_is)
    (case lTake => k_is)
    (case cTake => k_is)
    (case kTake => k_is)
    (case aOf => k_is)
    (case lOf => k_is)
    (case cOf => k_is)
    (case kOf => k_is)
    (case aNames => k_is)
    (case lNames => k_is)
    (case cNames => k_is)
    (case kNames => k_is)
    (case aForm => k_is)
    (case lForm => k_is)
    (case cForm => k_is)
    (case kForm => k_is)
    (case aOdd => k_is)
    (case lOdd => k_is)
    (case cOdd => k_is)
    (case kOdd => k_is)
    (case aBent => k_is)
    (case lBent => k_is)
    (case cBent => k_is)
    (case kBent => k_is)
    (case aLName => k_is)
    (case lLName => k_is)
    (case cLName => k_is)
    (case kLName => k_is)
    (case aCount => k_is)
    (case lCount => k_is)
    (case cCount => k_is)
    (case kCount => k_is)
    (case aGreat => k_is)
    (case lGreat => k_is)
    (case cGreat => k_is)
    (case kGreat => k_is)
    (case aRight => k_is)
    (case lRight => k_is)
    (case cRight => k_is)
    (case kRight => k_is)
    (case aLaw => k_is)
    (case lLaw => k_is)
    (case cLaw => k_is)
    (case kLaw => k_is)
    (case g_LETTERS => k_is)
    (case g_LONGEST_NAME => k_is)
    (case g_MOST_FORMULAS => k_is)
    (case g_DEEPEST_FORMULA => k_is)
    (case z_len => k_is)
    (case z_abs => k_is)
    (case z_int => k_is)
    (case z_range => k_is)
    (case z_max => k_is)
    (case z_min => k_is)
    (case z_tuple => k_is)
    (case z_repr => k_is)
    (case z_isinstance => k_is)
    (case z_str => k_is)
    (case z_all => k_is)
    (case z_list => k_is)
    (case z_sum => k_is)
