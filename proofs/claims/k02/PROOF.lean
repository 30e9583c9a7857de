import PyProof.Rows.All
import Wide.All
import OpenK.AllK
import Wide.FinOn
import HandS.ForMost
import HandS.IsInst
import HandS.Walk
import HandS.Evl
import KE.KExcIs
import HandS.More
import HandS.Exc
import HandS.ExcOwn
import HandS.WordsExc
import HandS.ExcInit
import HandS.ExcField
import HandS.Property
import HandS.Star
import KE.KCallOwn
import HandS.OwnEq
import HandS.Dict
import HandS.Finally
import HandS.FStr
import PyProof.FString3
import PyProof.Rows.StrIntSpec
import KE.KEqDict
import HandS.DictComp
import HandS.Iter
import PyProof.Draws
import PyProof.Rows.SetFrom
import PyProof.Rows.SortShellAny
import HandS.Set
import HandS.Strs
import HandS.SetFor
import HandS.Style
import HandS.Text
import KE.KRevSl
import HandS.Lambda
import HandS.TupLe
import HandS.CallLocal
import HandS.ClsMeth
import HandS.TupAny
import HandS.TupLen
import HandS.SetKeys
import HandS.Deep
import HandS.CallSlots
import HandS.TryOnly
import HandS.TryMany
import KE.KExcInit
import PyProof.ExcBaseAll.TypeError
import PyProof.ExcBaseAll.LookupError
import PyProof.ExcBaseAll.IndexError
import PyProof.ExcBaseAll.OverflowError
import PyProof.ExcBaseAll.RuntimeError
import KE.KTryMore
import HandS.Flow
import HandS.RaiseMore
import KE.SortKeyHeap
import HandS.EndTab
import KE.KDictList
import KE.KDictWalk
import HandS.Defaults
import KE.GoesZip
import KE.GoesMore
import KE.KDictZip
import PyProof.CollectWalk
import PyProof.DictDisplay
import PyProof.DictTable
import KE.SortData
import PyProof.MeetsStr3
import PyProof.Rows.StrNews2
import HandS.DeepEq
import PyProof.NeKinds
import HandS.List
import HandS.ExcValue
import HandS.HotCalls
import PyProof.Rows.CountFlat
import PyProof.EqKinds
import PyProof.StrLawsChain
import PySem.Challenge.RW_namesone_k02_tables_refused
set_option Elab.async false
set_option linter.all false
set_option maxRecDepth 100000
set_option maxHeartbeats 4000000
namespace Nm
open PySem PySem.Spec PyProof.Rows L2
abbrev Fg := PySem.W.Frag
section
variable {X : Cx}
/-- a constant of the module, its token left open -/
theorem pe_gx {x : Str} {v : V} {pos : Pos} (hg : Gl X x) (hm : ∃ u, X.mg x = some u ∧ RelV v u) (hd : (x == ("__debug__" : Str)) = false := by decide) : PE X (.Name x pos) (tC v) :=
  hm.elim fun _ h => pe_glob hg h.1 h.2 hd
end
/-- a def by its name: it keeps its promise, it stands there, it is bound by its parameters -/
structure Cal (P : Program) (w : World) (K : Fg) (mg : Str → Option Value) (base : Heap) (CX : CXT) (k : Nat) (x : Str) (ps : List Str) (sp : Sp) (f : Addr) (fd : FuncData) : Prop where
  ok : FnOk P w K mg base CX k f fd ps sp
  mg : mg x = some (.ref f)
  kp : PySem.W.keepIn K (.ref f) = true
  b : Binds K fd ps []
/-- a promise that is kept wherever no repr runs around -/
structure FnG (P : Program) (w : World) (K : Fg) (mg : Str → Option Value) (base : Heap) (CX : CXT) (k : Nat) (f : Addr) (fd : FuncData) (ps : List Str) (sp : Sp) : Prop where
  many : ∀ vs H Q E, sp vs H Q E → vs.length = ps.length
  go : ∀ (A : Around) (fr : List Env) (s : Shared) (H : Hp) (ar : Args) (us : List Value) (vs : List V) (Q : VK) (E : XK), A.guards = some [] → Room k A → Env0 P w K mg base A fr s H →
    BindsTo s fd ar (ps.zip us) → Vals vs us → sp vs H Q E → codeAny (model P w) A (.call (.ref f) ar) (CR CX fr P w H s Q E) s
section
variable {P : Program} {w : World} {K : Fg} {mg : Str → Option Value} {base : Heap} {CX : CXT} {k : Nat} {f : Addr} {fd : FuncData} {ps : List Str} {sp : Sp}
theorem FnG.of (F : FnOk P w K mg base CX k f fd ps sp) : FnG P w K mg base CX k f fd ps sp :=
  ⟨F.len, fun A fr s H ar us vs Q E _ => F.run A fr s H ar us vs Q E⟩
theorem FnG.up (F : FnG P w K mg base CX k f fd ps sp) {j : Nat} (h : k ≤ j) : FnG P w K mg base CX j f fd ps sp :=
  ⟨F.many, fun A fr s H ar us vs Q E hG hr => F.go A fr s H ar us vs Q E hG (hr.mono h)⟩
end
structure CalG (P : Program) (w : World) (K : Fg) (mg : Str → Option Value) (base : Heap) (CX : CXT) (k : Nat) (x : Str) (ps : List Str) (sp : Sp) (f : Addr) (fd : FuncData) : Prop where
  ok : FnG P w K mg base CX k f fd ps sp
  mg : mg x = some (.ref f)
  kp : PySem.W.keepIn K (.ref f) = true
  b : Binds K fd ps []
section
variable {P : Program} {w : World} {K : Fg} {mg : Str → Option Value} {base : Heap} {CX : CXT}
/-- the rule for a def whose body may ask for repr -/
theorem okG {x qual : Str} {st : Stmt} {f : Addr} {fd : FuncData} {N ps : List Str} {k : Nat} {sp : Sp} (F : Fun K x qual st f fd) (S : FnScope N ps (defScope st)) (many : ∀ vs H Q E, sp vs H Q E → vs.length = ps.length)
    (hb : ∀ (cdv : Value) (A : Around) (fr : List Env) (s : Shared) (H : Hp) (vs : List V) (Q : VK) (E : XK), A.guards = some [] → Room k (A.deeper (envOfC qual (defScope st) s.heap.objs.size f cdv)) → sp vs H Q E →
      ∃ t, PSs (cxOf CX P w K mg base N qual (defScope st) f cdv A fr s H E).nox (defBody st) t ∧ t { nx := fun _ H' => Q .non H', rt := Q } (start N vs) H) : FnG P w K mg base CX (k + 1) f fd ps sp := by
  refine ⟨many, fun A fr s H ar us vs Q E hG hr e0 hbi r q => ?_⟩
  obtain ⟨oc, od, kV, doc, pm, an, cdv, ct, osl, rfl, lk, hc⟩ := F.ex
  -- the def's promise at this one call alone
  let sp1 : Sp := fun vs' H' Q' E' => vs' = vs ∧ H' = H ∧ sp vs H Q' E'
  have hl := many _ _ _ _ q
  have KX : K.In s.heap := e0.mod.kin.keeps fun b o e => (e0.bs b o e).1
  have lim : s.heap.NoLimit := e0.mod.nolimit.keeps fun b o e => (e0.bs b o e).1
  have kinds : ∀ y ∈ ps.zip us, (defScope st).names.lookup y.1 = some .local ∨ ((defScope st).names.lookup y.1 = some .cell ∧ ((cellsFrom (s.heap.objs.size + 1) (defScope st).names []).lookup y.1).isSome = true) := by
    rintro ⟨n, v⟩ hy
    exact (S.par n (List.of_mem_zip hy).1).imp id fun q => ⟨q, PySem.W.cellsFrom_some _ _ _ (.inl q)⟩
  refine codeAny_call_function hr.depth (KX _ _ lk) rfl S.co S.gen rfl (PySem.W.codeRec_of KX hc) (hbi _ _ _ _ ?_)
  refine wpAny_newFunctionEnv_cells S.kind kinds fun env he s1 z => ?_
  subst he
  obtain ⟨t, ht, hq⟩ := hb cdv A fr s H vs Q E hG (hr.deeper _) q
  have I := inv_start (CX := CX) (P := P) (w := w) (K := K) (mg := mg) (base := base) (E := E) S hr.hd e0 hl r z
  refine ⟨lim.keeps z.toInCall.keep, codeAny_func (wpAny_mono (ht.nox.run [] s1 _ H _ I hq) ?_ fun _ _ h => h)⟩
  rintro (_ | _ | _ | u) s' h
  · obtain ⟨_, H', J, h⟩ := h
    exact ⟨V.non, H', J.os, J.bare, J.base, J.hok, rfl, h⟩
  · obtain ⟨_, _, _, h⟩ := h
    exact (show False from h).elim
  · obtain ⟨_, _, _, h⟩ := h
    exact (show False from h).elim
  · obtain ⟨v, _, H', J, rv, h⟩ := h
    exact ⟨v, H', J.os, J.bare, J.base, J.hok, rv, h⟩
end
def keyD : Key → PyData
  | .inl i => .int i
  | .inr x => .str x
/-- a written list, new: it does not stand where sys.modules does -/
def tLstS (t : TA) : TE := fun σ H Q => t σ H fun xs H1 => xs.length ≤ sizeLine ∧ ∀ p, H1 p = none → p ≠ sysModules → Q (.ref p) (upd H1 p (.lst xs))
theorem pe_lstS {X : Cx} {es : List Expr} {pos : Pos} {t : TA} (h : PA X es t) : PE X (.List es pos) (tLstS t) := by
  constructor
  intro pins s σ H Q I hq
  apply wpAny_List_spliced
  apply thn (h.run pos pins s σ H _ I hq)
  rintro us s1 ⟨xs, H1, I1, r, z, q⟩
  have fr : H1 s1.heap.objs.size = none := I1.hok.fresh (Nat.le_refl _)
  have new : ObjOk X.prog X.w (upd H1 s1.heap.objs.size (.lst xs)) (s1.heap.push { cls := .type "list", data := .seq us.toArray }) s1.heap.objs.size (.lst xs) := ⟨z, us, 0, r, Heap.get?_push_size _ rfl⟩
  exact ⟨r.length ▸ z, V.ref _, _, I1.laid (t' := s1.toks) (fun _ _ => Heap.get?_push_of_some _) (Nat.le_refl _) new, rfl, q _ fr (Nat.ne_of_gt I1.big)⟩
mutual
inductive Dx (K : Fg) (H : Hp) : V → PyData → Prop
  | non : Dx K H .non .none
  | bl (b : Bool) : Dx K H (.bl b) (.bool b)
  | int (i : Int) : Dx K H (.int i) (.int i)
  | str (x : Str) : Dx K H (.str x) (.str x)
  | lst {a : Addr} {xs : List V} {ds : List PyData} : a ≠ sysModules → SqL K H a xs → DxAll K H xs ds → Dx K H (.ref a) (.list ds)
  | tup {a : Addr} {xs : List V} {ds : List PyData} : SqT K H a xs → DxAll K H xs ds → Dx K H (.ref a) (.tuple ds)
  | dic {a : Addr} {kvs : List (Key × V)} {ds : List PyData} : Rd H a (.dK kvs) → DxAll K H (kvs.map (·.2)) ds → Dx K H (.ref a) (.dict ((kvs.map fun p => keyD p.1).zip ds))
inductive DxAll (K : Fg) (H : Hp) : List V → List PyData → Prop
  | nil : DxAll K H [] []
  | cons {v : V} {vs : List V} {d : PyData} {ds : List PyData} : Dx K H v d → DxAll K H vs ds → DxAll K H (v :: vs) (d :: ds)
end
theorem DxAll.len {K : Fg} {H : Hp} : ∀ {vs : List V} {ds : List PyData}, DxAll K H vs ds → vs.length = ds.length
  | _, _, .nil => rfl
  | _, _, .cons _ t => congrArg (· + 1) t.len
theorem zip_fst {α β : Type} : ∀ {xs : List α} {ys : List β}, xs.length = ys.length → (xs.zip ys).map (·.1) = xs
  | [], [], _ => rfl
  | x :: xs, y :: ys, h => congrArg (x :: ·) (zip_fst (xs := xs) (ys := ys) (Nat.succ.inj h))
  | [], _ :: _, h => nomatch h
  | _ :: _, [], h => nomatch h
theorem zip_snd {α β : Type} : ∀ {xs : List α} {ys : List β}, xs.length = ys.length → (xs.zip ys).map (·.2) = ys
  | [], [], _ => rfl
  | x :: xs, y :: ys, h => congrArg (y :: ·) (zip_snd (xs := xs) (ys := ys) (Nat.succ.inj h))
  | [], _ :: _, h => nomatch h
  | _ :: _, [], h => nomatch h
section
variable {X : Cx} {pins : List (Addr × Obj)} {σ : L2.St} {H : Hp} {s : Shared}
theorem keys_read {h : Heap} : ∀ {es : List DictEntry} {vs : List (Key × Value)}, PySem.Pairs (mixKind X.prog X.w) es vs → ReadsAll h (es.map (·.key)) (vs.map fun p => keyD p.1) []
  | _, _, .nil => .nil
  | e :: es, (k, v) :: vs, .cons h1 _ t => by
    refine ReadsAll.cons (as := []) (bs := []) ?_ (keys_read t)
    rcases keyIs_shape (show keyIs k e.key = true from h1) with ⟨i, tk, rfl, q⟩ | ⟨x, tk, rfl, q⟩
    · show Reads h e.key (.int i) []
      rw [q]
      exact Reads.int i tk
    · show Reads h e.key (.str x) []
      rw [q]
      exact Reads.str x tk
theorem vals_of_pairs {P : Program} {w : World} : ∀ {es : List DictEntry} {vs : List (Key × Value)}, PySem.Pairs (mixKind P w) es vs → es.map (·.val) = vs.map (·.2)
  | _, _, .nil => rfl
  | e :: es, (k, v) :: vs, .cons _ h2 t => by
    rw [List.map_cons, List.map_cons, vals_of_pairs t, h2]
theorem kv_fst : ∀ {kvs : List (Key × V)} {vs : List (Key × Value)}, KV kvs vs → (kvs.map fun p => keyD p.1) = vs.map fun p => keyD p.1
  | _, _, .nil => rfl
  | _, _, .cons h t => by
    rw [List.map_cons, List.map_cons, kv_fst t, h.1]
theorem kv_snd : ∀ {kvs : List (Key × V)} {vs : List (Key × Value)}, KV kvs vs → Vals (kvs.map (·.2)) (vs.map (·.2))
  | _, _, .nil => .nil
  | _, _, .cons h t => .cons h.2 (kv_snd t)
mutual
theorem Dx.reads (I : Inv X pins σ H s) : ∀ (d : PyData) (v : V) (u : Value), Dx X.K H v d → RelV v u → ∃ as, Reads s.heap u d as ∧ sysModules ∉ as
  | .none, _, _, h, r => by
    cases h
    cases r
    exact ⟨_, Reads.none, by simp⟩
  | .bool b, _, _, h, r => by
    cases h
    cases r
    exact ⟨_, Reads.bool b, by simp⟩
  | .int i, _, _, h, r => by
    cases h
    obtain ⟨t, rfl⟩ := r
    exact ⟨_, Reads.int i t, by simp⟩
  | .str x, _, _, h, r => by
    cases h
    obtain ⟨t, rfl⟩ := r
    exact ⟨_, Reads.str x t, by simp⟩
  | .list ds, _, _, h, r => by
    cases h with
    | lst ne hs ha =>
      cases r
      obtain ⟨its, rv, ⟨o, n, ho, hc, _, hd⟩, _⟩ := I.list hs
      obtain ⟨as, hr, hn⟩ := Dx.readsAll I ds _ its ha rv
      exact ⟨_, Reads.list ho hc hd hr, fun z => (List.mem_cons.mp z).elim (fun e => ne e.symm) hn⟩
  | .tuple ds, _, _, h, r => by
    cases h with
    | tup hs ha =>
      cases r
      obtain ⟨its, rv, ⟨o, ho, hc, n, hd⟩, _⟩ := I.tuple hs
      obtain ⟨as, hr, hn⟩ := Dx.readsAll I ds _ its ha rv
      exact ⟨_, Reads.tuple ho hc hd hr, hn⟩
  | .dict ps, v, _, h, r => by
    generalize e : PyData.dict ps = d at h
    cases h with
    | dic hs ha =>
      rename_i a kvs ds
      injection e with e
      cases r
      obtain ⟨z, sm, vs, rel, o, es, ep, ho, hx, hd, _, hp, _⟩ := hs.ok I.hok
      have el : (kvs.map fun p => keyD p.1).length = ds.length := by
        rw [List.length_map, ← ha.len, List.length_map]
      have e2 : ps.map (·.2) = ds := by rw [e, zip_snd el]
      have ha' : DxAll X.K H (kvs.map (·.2)) (ps.map (·.2)) := by rw [e2]; exact ha
      obtain ⟨as, hr, hn⟩ := Dx.readsKv I ps _ _ ha' (kv_snd rel)
      subst e
      refine ⟨_, Reads.dict (as := []) (bs := as) ho hx.1 hd ?_ ?_, ?_⟩
      · rw [zip_fst el, kv_fst rel]
        exact keys_read hp
      · rw [vals_of_pairs hp]
        exact hr
      · intro q
        rcases List.mem_cons.mp q with q | q
        · subst q
          exact absurd sm (by simp)
        · exact hn (by simpa using q)
    | _ => nomatch e
theorem Dx.readsKv (I : Inv X pins σ H s) : ∀ (ps : List (PyData × PyData)) (vs : List V) (us : List Value), DxAll X.K H vs (ps.map (·.2)) → Vals vs us → ∃ as, ReadsAll s.heap us (ps.map (·.2)) as ∧ sysModules ∉ as
  | [], _, _, h, r => by
    cases h
    cases r
    exact ⟨_, ReadsAll.nil, by simp⟩
  | (k, d) :: ps, vs, us, h, r => by
    generalize e : ((k, d) :: ps).map (·.2) = l at h
    cases h with
    | nil => nomatch e
    | cons h1 h2 =>
      injection e with e1 e2
      subst e1
      subst e2
      cases r with
      | cons r1 r2 =>
        obtain ⟨as, q1, n1⟩ := Dx.reads I d _ _ h1 r1
        obtain ⟨bs, q2, n2⟩ := Dx.readsKv I ps _ _ h2 r2
        exact ⟨_, ReadsAll.cons q1 q2, fun z => (List.mem_append.mp z).elim n1 n2⟩
theorem Dx.readsAll (I : Inv X pins σ H s) : ∀ (ds : List PyData) (vs : List V) (us : List Value), DxAll X.K H vs ds → Vals vs us → ∃ as, ReadsAll s.heap us ds as ∧ sysModules ∉ as
  | [], _, _, h, r => by
    cases h
    cases r
    exact ⟨_, ReadsAll.nil, by simp⟩
  | d :: ds, _, _, h, r => by
    cases h with
    | cons h1 h2 =>
      cases r with
      | cons r1 r2 =>
        obtain ⟨as, q1, n1⟩ := Dx.reads I d _ _ h1 r1
        obtain ⟨bs, q2, n2⟩ := Dx.readsAll I ds _ _ h2 r2
        exact ⟨_, ReadsAll.cons q1 q2, fun z => (List.mem_append.mp z).elim n1 n2⟩
end
end
/-- it may be shown: small enough, its ints short -/
structure Fit (d : PyData) : Prop where
  sh : d.showable = true
  lv : d.leavesShort 40 = true
  bk : d.bulk ≤ 300000
  dp : d.depth ≤ 30
theorem Fit.len {d : PyData} (h : Fit d) : d.shown.length ≤ sizeLine := by
  have h1 := PyData.shown_le_bulk 40 (by decide) d h.lv
  have h2 := h.bk
  have h3 : sizeLine = 16777216 := rfl
  omega
def rRepr (K : Fg) : List V → Hp → VK → Prop := fun xs H Q => ∃ x d, xs = [x] ∧ Dx K H x d ∧ Fit d ∧ Q (.str d.shown) H
theorem call_repr {X : Cx} (hG : X.A.guards = some []) (hu : X.A.units + 64 < cLine) : CallR X (.builtin "repr") (rRepr X.K) := by
  rintro pins s σ H xs us Q I r ⟨x, d, rfl, hd, hf, q⟩
  cases r with
  | cons rx r' =>
    cases r'
    obtain ⟨as, hr, hn⟩ := Dx.reads I d _ _ hd rx
    have sz := hf.len
    have out : ∀ (h' : Heap) (u tk : Tok), (∀ b o, s.heap.get? b = some o → h'.get? b = some o) → EP X pins σ Q (.str d.shown u) { s with heap := h', toks := tk } :=
      fun h' u tk k => ⟨.str d.shown, H, I.kept (t' := tk) k, ⟨u, rfl⟩, q⟩
    have out0 : EP X pins σ Q (.str d.shown s.toks) { s with toks := s.toks + 1 } := ⟨.str d.shown, H, I.tok _, ⟨_, rfl⟩, q⟩
    have dp := hf.dp
    cases hd with
    | non =>
      cases rx
      exact PySem.P.repr_of_none (by rw [show PyData.shown .none = ("None" : Str) by simp only [PyData.shown]] at out0; exact out0)
    | bl b =>
      cases rx
      exact PySem.P.repr_of_bool (by rw [show PyData.shown (.bool b) = (if b then "True" else "False" : Str) by simp only [PyData.shown]] at out0; exact out0)
    | int i =>
      obtain ⟨t, rfl⟩ := rx
      have sh : i.natAbs.log2 < 1920 := by simpa only [PyData.showable, decide_eq_true_eq] using hf.sh
      exact PySem.P.repr_of_int sh (by rw [show PyData.shown (.int i) = ((toString i : String) : Str) by simp only [PyData.shown]] at out0; exact out0)
    | str z =>
      obtain ⟨t, rfl⟩ := rx
      have e : PyData.shown (.str z) = reprText z := by simp only [PyData.shown]
      rw [e] at out0 sz
      exact PySem.P.repr_of_str out0 sz
    | lst => cases rx; exact repr_of_reads' hr hf.sh (fun _ => hn) hG (by omega) (fun _ _ e => e) out sz
    | tup => cases rx; exact repr_of_reads' hr hf.sh (fun _ => hn) hG (by omega) (fun _ _ e => e) out sz
    | dic => cases rx; exact repr_of_reads' hr hf.sh (fun _ => hn) hG (by omega) (fun _ _ e => e) out sz
/-- data that is no text -/
inductive Oth (H : Hp) : V → Prop where
  | non : Oth H .non
  | bl (b : Bool) : Oth H (.bl b)
  | int (i : Int) : Oth H (.int i)
  | lst {a : Addr} {xs : List V} (e : H a = some (.lst xs)) : Oth H (.ref a)
  | tup {a : Addr} {xs : List V} (e : H a = some (.tup xs)) : Oth H (.ref a)
  | dic {a : Addr} {kvs : List (Key × V)} (e : H a = some (.dK kvs)) : Oth H (.ref a)
theorem Oth.same {H H' : Hp} {x : V} (h : Oth H x) (s : Same H H') : Oth H' x := by
  cases h with
  | non => exact .non
  | bl b => exact .bl b
  | int i => exact .int i
  | lst e => exact .lst (s _ _ e)
  | tup e => exact .tup (s _ _ e)
  | dic e => exact .dic (s _ _ e)
theorem Oth.ty {K : Fg} {H : Hp} {x : V} (h : Oth H x) : ∃ t, TyX K H x t ∧ PySem.W.kitOne K t (.type "str") = some false := by
  cases h with
  | non => exact ⟨_, .base .non, kit_ty (by decide +kernel)⟩
  | bl b => exact ⟨_, .base (.bl b), kit_ty (by decide +kernel)⟩
  | int i => exact ⟨_, .base (.int i), kit_ty (by decide +kernel)⟩
  | lst e => exact ⟨_, .base (.lst e), kit_ty (by decide +kernel)⟩
  | tup e => exact ⟨_, .base (.tup e), kit_ty (by decide +kernel)⟩
  | dic e => exact ⟨_, .base (.dK e), kit_ty (by decide +kernel)⟩
section
open Evl
variable {K : Fg} {σ : L2.St} {H H' : Hp} {ta tb tc te : TE} {t u : TT} {x y z v : V}
/-- a new list that does not stand where sys.modules does -/
def EvM (te : TE) (σ : L2.St) (H : Hp) (xs : List V) : Prop := ∀ H1, Ex H H1 → ∀ Q : VK, (∀ p H2, H1 p = none → p ≠ sysModules → Ex H1 H2 → H2 p = some (.lst xs) → Q (.ref p) H2) → te σ H1 Q
theorem EvM.l {xs : List V} (h : EvM te σ H xs) : EvL te σ H xs := fun H1 e Q q => h H1 e Q fun p H2 a _ b c => q p H2 a b c
theorem Dx.same {d : PyData} (e : Ex H H') : Dx K H v d → Dx K H' v d := by
  intro h
  induction h using Dx.rec (motive_2 := fun vs ds _ => DxAll K H' vs ds) with
  | non => exact .non
  | bl b => exact .bl b
  | int i => exact .int i
  | str x => exact .str x
  | lst ne hs _ ih => exact .lst ne (ex_l e hs) ih
  | tup hs _ ih => exact .tup (ex_t e hs) ih
  | dic hs _ ih => exact .dic (ex_rd e hs) ih
  | nil => exact .nil
  | cons _ _ h1 h2 => exact .cons h1 h2
theorem DxAll.same {vs : List V} {ds : List PyData} (e : Ex H H') : DxAll K H vs ds → DxAll K H' vs ds
  | .nil => .nil
  | .cons a b => .cons (a.same e) (b.same e)
end
inductive TStr (H : Hp) : V → Bool → Prop where
  | s (z : Str) (hz : z.length ≤ 1000) : TStr H (.str z) true
  | o {x : V} (h : Oth H x) : TStr H x false
def zof : V → Str
  | .str z => z
  | _ => ⟨#[]⟩
theorem TStr.same {H H' : Hp} {x : V} {b : Bool} (h : TStr H x b) (s : Same H H') : TStr H' x b := by
  cases h with
  | s z hz => exact .s z hz
  | o h => exact .o (h.same s)
theorem TStr.eq {H : Hp} {x : V} (h : TStr H x true) : x = .str (zof x) ∧ (zof x).length ≤ 1000 := by
  cases h with
  | s z hz => exact ⟨rfl, hz⟩
/-- a text of at most n signs, all low -/
structure Lo (z : Str) (n : Nat) : Prop where
  len : z.length ≤ n
  low : ∀ c ∈ z.cps.toList, c < 1000
theorem Lo.up {z : Str} {n m : Nat} (h : Lo z n) (le : n ≤ m) : Lo z m := ⟨Nat.le_trans h.len le, h.low⟩
theorem Lo.app {y z : Str} {n m : Nat} (hy : Lo y n) (hz : Lo z m) : Lo (y ++ z) (n + m) := by
  refine ⟨?_, fun c hc => ?_⟩
  · rw [strLen_append]
    have := hy.len
    have := hz.len
    omega
  · rcases mem_cps_append.mp hc with h | h
    · exact hy.low c h
    · exact hz.low c h
theorem Lo.cut {z : Str} {n : Nat} (h : Lo z n) (lo hi : Option Int) : Lo (cutS z lo hi) n :=
  ⟨Nat.le_trans (cutS_length z lo hi) h.len, fun c hc => h.low c (List.mem_of_mem_drop (List.mem_of_mem_take (by simpa [cutS] using hc)))⟩
theorem joinL_nil : ∀ ls : List (List Nat), TL.joinL [] ls = ls.flatten
  | [] => rfl
  | [p] => by simp [TL.joinL]
  | p :: q :: r => by
    have ih := joinL_nil (q :: r)
    show p ++ ([] ++ TL.joinL [] (q :: r)) = _
    rw [ih]
    simp
theorem join_codes (ys : List Str) : (Txt.join ⟨#[]⟩ ys).cps.toList = (ys.map fun y => y.cps.toList).flatten := by
  rw [TL.join_eq]
  show TL.tl _ = _
  rw [TL.tl_join, show TL.tl ⟨#[]⟩ = [] from rfl, joinL_nil]
def fitB (d : PyData) : Bool := d.showable && (d.leavesShort 40 && (decide (d.bulk ≤ 300000) && decide (d.depth ≤ 30)))
theorem fit_of {d : PyData} (h : fitB d = true) : Fit d := by
  unfold fitB at h
  simp only [Bool.and_eq_true, decide_eq_true_eq] at h
  exact ⟨h.1, h.2.1, h.2.2.1, h.2.2.2⟩
def PM : Int := 2305843009213693951
/-- a bag at b: digits, a seed, how often it was asked (at most n) -/
def BagAt (H : Hp) (b : Addr) (n : Nat) : Prop := ∃ d x c : Int, H b = some (.lst [.int d, .int x, .int c]) ∧ 0 ≤ d ∧ 0 ≤ x ∧ x < PM ∧ 0 ≤ c ∧ c ≤ n
theorem BagAt.up {H : Hp} {b : Addr} {n m : Nat} (h : BagAt H b n) (le : n ≤ m) : BagAt H b m := by
  obtain ⟨d, x, c, e, h1, h2, h3, h4, h5⟩ := h
  exact ⟨d, x, c, e, h1, h2, h3, h4, by omega⟩
theorem BagAt.to {H H' : Hp} {b : Addr} {n : Nat} (h : BagAt H b n) (e : H' b = H b) : BagAt H' b n := by
  obtain ⟨d, x, c, q, r⟩ := h
  exact ⟨d, x, c, e.trans q, r⟩
theorem BagAt.same {H H' : Hp} {b : Addr} {n : Nat} (h : BagAt H b n) (s : Same H H') : BagAt H' b n := by
  obtain ⟨d, x, c, q, r⟩ := h
  exact ⟨d, x, c, s _ _ q, r⟩
/-- nothing but b was touched -/
def But (b : Addr) (H H' : Hp) : Prop := ∀ p, p ≠ b → H' p = H p
/-- the drawing part of a state: all of M stands, the bag stands at b beside it -/
structure Dr (M : Hp) (b : Addr) (n : Nat) (H : Hp) : Prop where
  same : Same M H
  fr : M b = none
  bag : BagAt H b n
section
variable {M : Hp} {b p : Addr} {n m : Nat} {H H' : Hp} {o : HO}
theorem Dr.ne (h : Dr M b n H) (q : H p = none) : p ≠ b := by
  obtain ⟨d, x, c, e, _⟩ := h.bag
  exact (ne_of_none e q).symm
theorem Dr.neM (h : Dr M b n H) {x : Addr} {u : HO} (q : M x = some u) : x ≠ b := ne_of_none q h.fr
theorem Dr.take (h : Dr M b n H) (hb : BagAt H' b m) (ht : But b H H') : Dr M b m H' :=
  ⟨fun x u e => (ht x (h.neM e)).trans (h.same x u e), h.fr, hb⟩
theorem Dr.new (h : Dr M b n H) (q : H p = none) : Dr (upd M p o) b n (upd H p o) := by
  refine ⟨fun x u e => ?_, ?_, h.bag.to (upd_ne (h.ne q).symm)⟩
  · by_cases hx : x = p
    · subst hx
      rw [upd_same] at e ⊢
      exact e
    · rw [upd_ne hx] at e ⊢
      exact h.same x u e
  · rw [upd_ne (h.ne q).symm]
    exact h.fr
theorem Dr.up (h : Dr M b n H) (le : n ≤ m) : Dr M b m H := ⟨h.same, h.fr, h.bag.up le⟩
theorem Dr.free (h : Dr M b n H) (q : H p = none) : M p = none := h.same.free q
/-- all but the bag stays -/
theorem Dr.kb (h : Dr M b n H) (hb : BagAt H' b m) (ht : ∀ x u, x ≠ b → H x = some u → H' x = some u) : Dr M b m H' :=
  ⟨fun x u e => ht x u (h.neM e) (h.same x u e), h.fr, hb⟩
end
theorem Cal.up {P : Program} {w : World} {K : Fg} {mg : Str → Option Value} {base : Heap} {CX : CXT} {j k : Nat} {x : Str} {ps : List Str} {sp : Sp} {f : Addr} {fd : FuncData} (C : Cal P w K mg base CX j x ps sp f fd) (h : j ≤ k) :
    Cal P w K mg base CX k x ps sp f fd := ⟨C.ok.mono h, C.mg, C.kp, C.b⟩
theorem CalG.up {P : Program} {w : World} {K : Fg} {mg : Str → Option Value} {base : Heap} {CX : CXT} {j k : Nat} {x : Str} {ps : List Str} {sp : Sp} {f : Addr} {fd : FuncData} (C : CalG P w K mg base CX j x ps sp f fd) (h : j ≤ k) :
    CalG P w K mg base CX k x ps sp f fd := ⟨C.ok.up h, C.mg, C.kp, C.b⟩
end Nm
set_option Elab.async false
set_option linter.all false
namespace Nm
abbrev Fds := List (Nat × List Nat)
abbrev Mks := List (Nat × Int)
def lk {α : Type} (l : List (Nat × α)) (c : Nat) : Option α := (l.find? fun p => decide (p.1 = c)).map (·.2)
theorem lk_mem {α : Type} {l : List (Nat × α)} {c : Nat} {x : α} (h : lk l c = some x) : (c, x) ∈ l := by
  unfold lk at h
  obtain ⟨p, hp, e⟩ := Option.map_eq_some_iff.mp h
  have h1 := List.find?_some hp
  have h2 := List.mem_of_find?_eq_some hp
  have h3 : p.1 = c := of_decide_eq_true h1
  rw [← h3, ← e]
  exact h2
theorem lk_none {α : Type} {l : List (Nat × α)} {c : Nat} : lk l c = none ↔ ∀ p ∈ l, p.1 ≠ c := by
  unfold lk
  rw [Option.map_eq_none_iff, List.find?_eq_none]
  constructor
  · intro h p hp e
    exact h p hp (decide_eq_true e)
  · intro h p hp e
    exact h p hp (of_decide_eq_true e)
theorem lk_of_mem {α : Type} : ∀ {l : List (Nat × α)} {c : Nat} {x : α}, (l.map (·.1)).Nodup → (c, x) ∈ l → lk l c = some x
  | p :: l, c, x, hn, hm => by
    rw [List.map_cons, List.nodup_cons] at hn
    rcases List.mem_cons.mp hm with e | m
    · subst e
      simp [lk]
    · have ne : ¬ p.1 = c := fun e => hn.1 (by rw [e]; exact List.mem_map.mpr ⟨_, m, rfl⟩)
      have ih := lk_of_mem hn.2 m
      unfold lk at ih ⊢
      rw [List.find?_cons, decide_eq_false ne]
      exact ih
def foldC (fs : Fds) (c : Nat) : List Nat := (lk fs c).getD [c]
def foldL (fs : Fds) (l : List Nat) : List Nat := (l.map (foldC fs)).flatten
theorem foldL_nil {fs : Fds} : foldL fs [] = [] := rfl
theorem foldL_cons {fs : Fds} {c : Nat} {l : List Nat} : foldL fs (c :: l) = foldC fs c ++ foldL fs l := rfl
theorem foldL_app {fs : Fds} {a b : List Nat} : foldL fs (a ++ b) = foldL fs a ++ foldL fs b := by simp [foldL]
theorem foldL_id {fs : Fds} : ∀ {l : List Nat}, (∀ c ∈ l, lk fs c = none) → foldL fs l = l
  | [], _ => rfl
  | c :: l, h => by
    rw [foldL_cons, foldL_id fun d hd => h d (List.mem_cons_of_mem _ hd)]
    simp [foldC, h c (List.mem_cons_self ..)]
def runS (ms : Mks) (run : List Nat) : List Nat := run.filter (fun c => decide (lk ms c = some 1)) ++ (run.filter (fun c => decide (lk ms c = some 2)) ++ run.filter (fun c => decide (lk ms c = some 3)))
def isM (ms : Mks) (c : Nat) : Bool := (lk ms c).isSome
def ordL (ms : Mks) : List Nat → List Nat → List Nat
  | [], run => runS ms run
  | c :: r, run => if isM ms c then ordL ms r (run ++ [c]) else runS ms run ++ c :: ordL ms r []
def keyL (fs : Fds) (ms : Mks) (l : List Nat) : List Nat := ordL ms (foldL fs l) []
theorem ordL_mark {ms : Mks} {c : Nat} {r run : List Nat} (h : isM ms c = true) : ordL ms (c :: r) run = ordL ms r (run ++ [c]) := by simp [ordL, h]
theorem ordL_sign {ms : Mks} {c : Nat} {r run : List Nat} (h : isM ms c = false) : ordL ms (c :: r) run = runS ms run ++ c :: ordL ms r [] := by simp [ordL, h]
theorem runS_congr {ms : Mks} {a b : List Nat} (h : ∀ k : Int, a.filter (fun c => decide (lk ms c = some k)) = b.filter (fun c => decide (lk ms c = some k))) : runS ms a = runS ms b := by
  unfold runS
  rw [h 1, h 2, h 3]
theorem ordL_congr {ms : Mks} : ∀ {r a b : List Nat}, (∀ k : Int, a.filter (fun c => decide (lk ms c = some k)) = b.filter (fun c => decide (lk ms c = some k))) → ordL ms r a = ordL ms r b
  | [], a, b, h => runS_congr h
  | c :: r, a, b, h => by
    cases hm : isM ms c with
    | true =>
      rw [ordL_mark hm, ordL_mark hm]
      exact ordL_congr fun k => by rw [List.filter_append, List.filter_append, h k]
    | false => rw [ordL_sign hm, ordL_sign hm, runS_congr h]
/-- neighbours that fall -/
def fall (ms : Mks) (a b : Nat) : Bool := match lk ms a, lk ms b with
  | some x, some y => decide (y < x)
  | _, _ => false
def okM (ms : Mks) : Prop := ∀ c x, lk ms c = some x → x = 1 ∨ x = 2 ∨ x = 3
def fallsC (ms : Mks) (a : Nat) (l : List Nat) : Nat := (l.filter (fun b => fall ms a b)).length
def falls (ms : Mks) : List Nat → Nat
  | [] => 0
  | a :: l => fallsC ms a l + falls ms l
end Nm
set_option Elab.async false
set_option linter.all false
set_option maxRecDepth 100000
set_option maxHeartbeats 4000000
namespace Nm
open PySem PySem.Spec PyProof.Rows L2
def sgS (c : Nat) : Str := ⟨#[c]⟩
def sgs (l : List Nat) : List V := l.map fun c => V.str (sgS c)
def stL (l : List Nat) : Str := ⟨l.toArray⟩
theorem stL_codes (l : List Nat) : (stL l).cps.toList = l := by simp [stL]
theorem stL_of (z : Str) : stL z.cps.toList = z := Str.ext' (by simp [stL])
theorem stL_len (l : List Nat) : (stL l).length = l.length := by simp [stL, Str.length]
theorem stL_inj {a b : List Nat} (h : stL a = stL b) : a = b := by
  have := congrArg (fun z : Str => z.cps.toList) h
  simpa [stL] using this
theorem sgs_len (l : List Nat) : (sgs l).length = l.length := by simp [sgs]
theorem sgs_strs (l : List Nat) : sgs l = (l.map sgS).map V.str := by rw [List.map_map]; rfl
theorem join_sgs (l : List Nat) : Txt.join ⟨#[]⟩ (l.map sgS) = stL l := by
  refine Str.ext' (Array.toList_inj.mp ?_)
  rw [join_codes, stL_codes, List.map_map]
  induction l with
  | nil => rfl
  | cons c r ih =>
    rw [List.map_cons, List.flatten_cons, ih]
    rfl
section
variable {X : Cx}
theorem vals_signs {z : Str} {us : List Value} (hl : us.length = z.cps.toList.length) (h : ∀ (j : Nat) (v : Value), us[j]? = some v → SignAt z j v) : Vals (sgs z.cps.toList) us := by
  rw [sgs_strs]
  refine vals_of_strs (strs_at (by rw [hl, List.length_map]) fun j v e => ?_)
  obtain ⟨c, u, hc, rfl⟩ := h j v e
  exact ⟨sgS c, u, by rw [List.getElem?_map, Array.getElem?_toList, hc]; rfl, rfl⟩
/-- list of a text -/
def rListT : List V → Hp → VK → Prop := fun xs H Q => ∃ z : Str, xs = [.str z] ∧ z.length ≤ 100000 ∧ ∀ p, H p = none → p ≠ sysModules → Q (.ref p) (upd H p (.lst (sgs z.cps.toList)))
theorem call_listT (hc : X.calm = true) : CallR X (.type "list") rListT := by
  rintro pins s σ H xs us Q I r ⟨z, rfl, hz, q⟩
  obtain ⟨u, rfl, ⟨t, rfl⟩⟩ := vals1 r
  refine call_list_str (I.ok.hd hc) z t (hn := Evl.sz_of hz) fun h' tk acc c k hS ha => ?_
  have hl : acc.toList.length = z.cps.toList.length := by rw [Array.length_toList, ha.1, Array.length_toList]
  have rv : Vals (sgs z.cps.toList) acc.toList := vals_signs hl fun j v e => ha.2 j v (by rw [← Array.getElem?_toList]; exact e)
  have hz' : (sgs z.cps.toList).length ≤ sizeLine := by rw [sgs_len, Array.length_toList]; exact Evl.sz_of hz
  exact ⟨.ref s.heap.objs.size, _, I.laid (t' := tk) k (Nat.le_refl _) (show ObjOk X.prog X.w _ h' _ (.lst (sgs z.cps.toList)) from ⟨hz', acc.toList, c, rv, by rw [Array.toArray_toList]; exact hS⟩), rfl, q _ (I.hok.fresh (Nat.le_refl _)) (Nat.ne_of_gt I.big)⟩
/-- a text some times -/
def repS (z : Str) (n : Nat) : Str := stL (List.replicate n z.cps.toList).flatten
theorem fold_cat (a : Array Nat) : ∀ (n : Nat) (b : Array Nat), ((List.replicate n a).foldl (· ++ ·) b).toList = b.toList ++ (List.replicate n a.toList).flatten
  | 0, b => by simp
  | n + 1, b => by
    rw [List.replicate_succ, List.foldl_cons, fold_cat a n, List.replicate_succ, List.flatten_cons]
    simp
def rMulT : R2 := fun x y H Q => ∃ (z : Str) (k : Int), x = .str z ∧ y = .int k ∧ 0 ≤ k ∧ k ≤ 1000 ∧ z.length ≤ 1000 ∧ Q (.str (repS z k.toNat)) H
theorem op_mulT : OpR X (binaryOp .Mult) rMulT := by
  intro pins s σ H x y v u Q I rx ry h
  obtain ⟨z, k, rfl, rfl, h0, h1, hz, q⟩ := h
  obtain ⟨t, rfl⟩ := rx
  obtain ⟨t', rfl⟩ := ry
  have hlen : z.length * k.toNat ≤ 1000000 := Nat.le_trans (Nat.mul_le_mul hz (show k.toNat ≤ 1000 by omega)) (by decide)
  have fin : ∀ (y : Str) (t : Tok) (s' : Shared), y = repS z k.toNat → Inv X pins σ H s' → EP X pins σ Q (.str y t) s' := fun y t s' e J => ⟨.str (repS z k.toNat), H, J, ⟨t, by rw [e]⟩, q⟩
  refine PySem.P.mul_str (by rw [decide_eq_false (show ¬ k < -(2 ^ 63 : Int) by omega), decide_eq_false (show ¬ k ≥ 2 ^ 63 by omega)]; rfl) (fun a _ b => ?_) (fun a _ => ?_) ?_
  · have h2 : (2 ^ 63 - 1 : Int) / k ≥ 1000 := by
      have : (1000 : Int) * k ≤ 2 ^ 63 - 1 := by omega
      exact (Int.le_ediv_iff_mul_le (by omega)).mpr this
    omega
  · exact decide_eq_false (by rw [sizeLine_eq]; omega)
  · have hE : ∀ n : Nat, (List.replicate n z.cps.toList).flatten.length = n * z.length := fun n => by
      simp [Str.length]
    by_cases hk : k < 1
    · rw [if_pos hk]
      have e0 : k.toNat = 0 := by omega
      refine ⟨by decide, fin _ _ _ ?_ (I.tok _)⟩
      rw [e0]
      rfl
    · rw [if_neg hk]
      by_cases h2 : (k == 1 || z.length == 0) = true
      · rw [if_pos h2]
        refine fin _ _ _ ?_ I
        rcases Bool.or_eq_true_iff.mp h2 with h3 | h3
        · have e1 : k.toNat = 1 := by have := beq_iff_eq.mp h3; omega
          rw [e1]
          unfold repS
          rw [List.replicate_one, List.flatten_cons, List.flatten_nil, List.append_nil, stL_of]
        · have e1 : z.cps.toList = [] := List.eq_nil_of_length_eq_zero (by rw [Array.length_toList]; exact beq_iff_eq.mp h3)
          have e2 : repS z k.toNat = stL [] := by
            unfold repS
            rw [e1]
            congr 1
            exact List.eq_nil_of_length_eq_zero (by simp)
          rw [e2, ← e1, stL_of]
      · rw [if_neg h2]
        refine ⟨?_, fin _ _ _ ?_ (I.tok _)⟩
        · have e := congrArg List.length (fold_cat z.cps k.toNat #[])
          have e2 := hE k.toNat
          rw [show (#[] : Array Nat).toList ++ (List.replicate k.toNat z.cps.toList).flatten = (List.replicate k.toNat z.cps.toList).flatten from rfl, e2, Array.length_toList] at e
          show (List.foldl (· ++ ·) #[] (List.replicate k.toNat z.cps)).size ≤ sizeLine
          rw [e, Nat.mul_comm, sizeLine_eq]
          omega
        · refine Str.ext' (Array.toList_inj.mp ?_)
          rw [fold_cat]
          simp [repS, stL]
end
end Nm
set_option Elab.async false
set_option linter.all false
set_option maxRecDepth 100000
set_option maxHeartbeats 4000000
namespace Nm
open PySem PySem.Spec PyProof.Rows L2
section
variable {X : Cx}
/-- sorted of a text of fewer than 64 signs: some order of its signs -/
def rSortT : List V → Hp → VK → Prop := fun xs H Q => ∃ z : Str, xs = [.str z] ∧ z.length < 64 ∧ ∀ ys p, ys.Perm (z.cps.toList.map sgS) → sortedS ys = true → H p = none → Q (.ref p) (upd H p (.lst (ys.map V.str)))
theorem call_sortT (hc : X.calm = true) : CallR X (.builtin "sorted") rSortT := by
  rintro pins s σ H xs us Q I r ⟨z, rfl, h64, q⟩
  obtain ⟨u, rfl, ⟨t, rfl⟩⟩ := vals1 r
  have hz : z.cps.toList.length < 64 := by rw [Array.length_toList]; exact h64
  refine Calls.call_function_entry kind_sorted plain_sorted entry_sorted (args_sorted1 _) ?_
  unfold Builtin.«sorted»
  refine wpAny_bind (m := checkCount "sorted" 1 1 _) (wpAny_pure ?_)
  refine wpAny_bind (wpAny_collect_str (A := X.A.in1) (hn := Evl.sz_of (by show z.length ≤ 100000; omega)) (I.ok.hd hc) z t fun s' acc hk hg hd ho ha => ?_)
  obtain ⟨h', g', d', tk, os'⟩ := s'
  obtain rfl : g' = s.gens := hg
  obtain rfl : d' = s.drawn := hd
  obtain rfl : os' = s.os := ho
  have hal : acc.toList.length = (z.cps.toList.map sgS).length := by rw [Array.length_toList, ha.1, List.length_map, Array.length_toList]
  have hS : StrsAre acc.toList (z.cps.toList.map sgS) := strs_at hal fun j v e => by
    obtain ⟨c, u, hc, rfl⟩ := ha.2 j v (by rw [← Array.getElem?_toList]; exact e)
    exact ⟨sgS c, u, by rw [List.getElem?_map, Array.getElem?_toList, hc]; rfl, rfl⟩
  have h6 : acc.toList.length < 64 := by rw [hal, List.length_map]; exact hz
  have I1 : Inv X pins σ H { s with heap := h', toks := tk } := I.kept hk
  refine wpAny_bind (wpAny_newList ?_ (by rw [sizeLine_eq]; omega))
  have hoL : (h'.push (seqObj "list" acc.toList.toArray 0)).get? h'.objs.size = some (seqObj "list" acc.toList.toArray 0) := Heap.get?_push_size _ rfl
  show wpAny _ _ _ _ _ { s with heap := h'.push (seqObj "list" acc.toList.toArray 0), toks := tk }
  refine wpAny_bind (wpAny_holding (wpAny_call_entry slot_list_sort ⟨_, hoL, rfl⟩ entry_list_sort
    (list_sort_treeK (s := { s with heap := h'.push (seqObj "list" acc.toList.toArray 0), toks := tk }) strKind_oneLt hoL hS.keysOf (fun v₁ v₂ rest e => keyKind_strs (by rw [← e]; exact hS)) h6 fun st' hp hs => ⟨_, rfl, ?_⟩)
    (args_list_sort _)))
  obtain ⟨ys, g1, g2, g3⟩ := sorted_out_str hS hp hs
  obtain ⟨e', he'⟩ := sortedHeap_at (vs := acc.toList) (out := (arrOf st').map (·.2)) hoL
  have hlen : (ys.map V.str).length ≤ sizeLine := by
    rw [List.length_map, g2.length_eq, List.length_map, sizeLine_eq]
    omega
  refine wpAny_pure ⟨_, rfl, .ref h'.objs.size, upd H h'.objs.size (.lst (ys.map V.str)), I1.laid (t' := tk) (fun b u e => ?_) (Nat.le_refl _)
    (show ObjOk X.prog X.w _ _ _ (.lst (ys.map V.str)) from ⟨hlen, ((arrOf st').map (·.2)).toList, e', vals_of_strs g1, by rw [Array.toArray_toList]; exact he'⟩), rfl, q ys _ g2 g3 (I1.hok.fresh (Nat.le_refl _))⟩
  have lt : b < h'.objs.size := Heap.lt_size e
  rw [sortedHeap_old (Nat.ne_of_lt lt) (by rw [size_push']; exact Nat.lt_succ_of_lt lt)]
  exact Heap.get?_push_of_some _ e
end
end Nm
set_option Elab.async false
set_option linter.all false
set_option maxRecDepth 100000
set_option maxHeartbeats 4000000
namespace Nm
open PySem PySem.Spec PyProof.Rows L2
structure ExK (K : Fg) (D : Addr) : Prop where
  cl : (PySem.W.clsIn K D).isSome = true
  ga : PySem.W.findIn K (.ref D) "__getattribute__" = some (some (.builtin "BaseException.__getattribute__"))
  gt : PySem.W.findIn K (.ref D) "__getattr__" = some none
  sb : PySem.W.subIn K (.ref D) (.type "BaseException") = some true
  ca : PySem.W.findIn K (.ref D) "__class__" = some (some (.builtin "object.__class__"))
  cg : PySem.W.specialIn K (.builtin "object.__class__") "__get__" = some (some (.builtin "getset_descriptor.__get__"))
  ct : PySem.W.takesIn K (.builtin "object.__class__") = some true
  mo : PySem.W.mroIn K D (.type "object") = some true
/-- isinstance(e, c), isinstance(e, (c, ..)): e stands at a, of the class at D -/
def rIsX (K : Fg) (D a : Addr) : List V → Hp → VK → Prop := fun xs H Q => ∃ (c : V) (b : Bool), xs = [.ref a, c] ∧
  ((∃ u, ClsV c u ∧ PySem.W.kitOne K (.ref D) u = some b) ∨ ∃ (tp : Addr) (cs : List V) (us : List Value), c = .ref tp ∧ H tp = some (.tup cs) ∧ Paired ClsV cs us ∧ PySem.W.kitAny K (.ref D) us = some b) ∧ Q (.bl b) H
theorem call_isX {X : Cx} {a D : Addr} {cls : Value} {d : Option Addr} {oe : Obj} {pn : List (Addr × Obj)} (T : ExK X.K D) (hz : Zc cls d oe) (hf : ∃ vs, oe.data = .fields vs) :
    CallR (X.suite a ((a, oe) :: pn)) (.builtin "isinstance") (fun xs H Q => cls = .ref D ∧ (∃ dd fs, d = some dd ∧ H dd = some (.xd fs)) ∧ rIsX X.K D a xs H Q) := by
  rintro pins s σ H xs us Q I r ⟨rfl, ⟨dd, fs, rfl, hd⟩, c, b, rfl, h, q⟩
  obtain ⟨u1, u2, rfl, r1, r2⟩ := vals2 r
  cases (show u1 = Value.ref a from r1)
  obtain ⟨hget, _⟩ := I.pin (a, oe) (List.mem_append.mpr (.inl List.mem_cons_self))
  obtain ⟨mA, hns, _⟩ := (show ObjOk X.prog X.w H s.heap dd (.xd fs) from I.hok dd _ hd)
  obtain ⟨od, ho, _⟩ := lookIn_ns hns
  obtain ⟨vs, hv⟩ := hf
  have J : PySem.W.InstAt s.heap a oe D (some od) := ⟨hget, hz.1, by unfold PySem.W.notCls; rw [hv] <;> rfl, by rw [hz.2]; exact ho⟩
  have Z := PySem.W.kitx_exc (x := a) (od := some od) (ox := oe) T.cl T.ga T.gt T.sb T.ca T.cg T.ct T.mo
  rcases h with ⟨u, k, e⟩ | ⟨tp, cs, ws, rfl, hT, k, e⟩
  · have e2 := k.eq r2
    subst e2
    exact PySem.W.kia_one Z I.kIn J e (fun z => nomatch z) fun tk => ⟨.bl b, H, I.tok tk, rfl, q⟩
  · cases (show u2 = Value.ref tp from r2)
    obtain ⟨_, its, rv, o, h1, h2, n, h3⟩ := (show ObjOk X.prog X.w H s.heap tp (.tup cs) from I.hok tp _ hT)
    have e3 := ClsV.all k rv
    subst e3
    obtain ⟨oc, od', dt, sl⟩ := o
    simp only at h2 h3
    subst h2 h3
    exact PySem.W.kia_tup Z I.kIn J h1 e (fun z => nomatch z) fun tk => ⟨.bl b, H, I.tok tk, rfl, q⟩
end Nm
set_option Elab.async false
set_option linter.all false
set_option maxRecDepth 100000
set_option maxHeartbeats 4000000
namespace Nm
open PySem PySem.Spec PyProof.Rows L2
section
open Evl
variable {K : Fg} {σ : L2.St} {H H' : Hp} {ta tb tc td te ty tx : TE} {t u : TT} {x y z v : V} {a : Addr} {kvs : List (Key × V)} {k : Key}
/-- ''.join of a new list of texts -/
def rJoin (K : Fg) : V → List V → Hp → VK → Prop := fun x xs H Q => ∃ a p, ∃ ys : List Str, x = .str a ∧ xs = [.ref p] ∧ (SqL K H p (ys.map V.str) ∨ SqT K H p (ys.map V.str)) ∧
  (ys.map (·.length)).sum + ys.length * a.length ≤ 16777216 ∧ Q (.str (Txt.join a ys)) H
end
end Nm
set_option Elab.async false
set_option linter.all false
set_option maxRecDepth 100000
set_option maxHeartbeats 4000000
namespace Nm
open PySem PySem.Spec PyProof.Rows L2
abbrev SIGNS : Str := "abcdefghijklmnopqrstuvwxyzABCDEFGHIJKLMNOPQRSTUVWXYZ0123456789'-.:^_~"
def sgn (c : Nat) : Bool := decide (c ∈ SIGNS.cps.toList)
def upTo (z : Str) (m : Int) : Bool := decide ((1 : Int) ≤ (z.length : Int)) && (decide ((z.length : Int) ≤ m) && z.cps.toList.all sgn)
/-- the codes of a word of at most n signs -/
structure Wd (l : List Nat) (n : Nat) : Prop where
  ge : 1 ≤ l.length
  le : l.length ≤ n
  sg : ∀ c ∈ l, sgn c = true
theorem Wd.up {l : List Nat} {n m : Nat} (h : Wd l n) (le : n ≤ m) : Wd l m := ⟨h.ge, Nat.le_trans h.le le, h.sg⟩
theorem upTo_iff {l : List Nat} {n : Nat} : upTo (stL l) (n : Int) = true ↔ Wd l n := by
  unfold upTo
  rw [stL_len, stL_codes]
  simp only [Bool.and_eq_true, decide_eq_true_eq, List.all_eq_true]
  constructor
  · rintro ⟨h1, h2, h3⟩
    exact ⟨by omega, by omega, h3⟩
  · rintro ⟨h1, h2, h3⟩
    exact ⟨by omega, by omega, h3⟩
def numB : V → Bool
  | .int _ => true
  | _ => false
/-- any data -/
inductive AnyD (H : Hp) : V → Prop where
  | o {x : V} (h : Oth H x) : AnyD H x
  | s (z : Str) : AnyD H (.str z)
theorem AnyD.same {H H' : Hp} {x : V} (h : AnyD H x) (s : Same H H') : AnyD H' x := by
  cases h with
  | o h => exact .o (h.same s)
  | s z => exact .s z
theorem AnyD.ty {K : Fg} {H : Hp} {x : V} (h : AnyD H x) : ∃ t b1 b2, TyX K H x t ∧ PySem.W.kitOne K t (.type "int") = some b1 ∧ PySem.W.kitOne K t (.type "bool") = some b2 ∧ numB x = (b1 && !b2) := by
  cases h with
  | s z => exact ⟨_, false, false, .base (.str z), kit_ty (by decide +kernel), kit_ty (by decide +kernel), rfl⟩
  | o h =>
    cases h with
    | non => exact ⟨_, false, false, .base .non, kit_ty (by decide +kernel), kit_ty (by decide +kernel), rfl⟩
    | bl b => exact ⟨_, true, true, .base (.bl b), kit_ty (by decide +kernel), kit_ty (by decide +kernel), rfl⟩
    | int i => exact ⟨_, true, false, .base (.int i), kit_ty (by decide +kernel), kit_ty (by decide +kernel), rfl⟩
    | lst e => exact ⟨_, false, false, .base (.lst e), kit_ty (by decide +kernel), kit_ty (by decide +kernel), rfl⟩
    | tup e => exact ⟨_, false, false, .base (.tup e), kit_ty (by decide +kernel), kit_ty (by decide +kernel), rfl⟩
    | dic e => exact ⟨_, false, false, .base (.dK e), kit_ty (by decide +kernel), kit_ty (by decide +kernel), rfl⟩
def kF (fs : Fds) : List (Key × V) := fs.map fun p => (Sum.inr (sgS p.1), V.str (stL p.2))
def kM (ms : Mks) : List (Key × V) := ms.map fun p => (Sum.inr (sgS p.1), V.int p.2)
theorem sgS_inj {a b : Nat} (h : sgS a = sgS b) : a = b := by
  have := stL_inj (a := [a]) (b := [b]) h
  simpa using this
/-- folds and marks that a table may have -/
structure RuleOk (fs : Fds) (ms : Mks) : Prop where
  fn : (fs.map (·.1)).Nodup
  fk : ∀ p ∈ fs, sgn p.1 = true
  fw : ∀ p ∈ fs, Wd p.2 3 ∧ ∀ c ∈ p.2, lk fs c = none
  fl : fs.length ≤ 40
  mn : (ms.map (·.1)).Nodup
  mg : ∀ p ∈ ms, sgn p.1 = true ∧ lk fs p.1 = none
  mc : ∀ p ∈ ms, p.2 = 1 ∨ p.2 = 2 ∨ p.2 = 3
  ml : ms.length ≤ 8
theorem RuleOk.okM {fs : Fds} {ms : Mks} (h : RuleOk fs ms) : okM ms := fun c x e => h.mc _ (lk_mem e)
def tabF (p q : Addr) : List (Str × V) := putF "_marks" (.ref q) (putF "_folds" (.ref p) [])
def TabAt (C : Addr) (H : Hp) (a : Addr) (fs : Fds) (ms : Mks) : Prop := ∃ dx p q, H a = some (.ins C dx (tabF p q)) ∧ H p = some (.dK (kF fs)) ∧ H q = some (.dK (kM ms))
theorem TabAt.same {C : Addr} {H H' : Hp} {a : Addr} {fs : Fds} {ms : Mks} (h : TabAt C H a fs ms) (s : Same H H') : TabAt C H' a fs ms := by
  obtain ⟨dx, p, q, h1, h2, h3⟩ := h
  exact ⟨dx, p, q, s _ _ h1, s _ _ h2, s _ _ h3⟩
end Nm
set_option Elab.async false
set_option linter.all false
set_option maxRecDepth 100000
set_option maxHeartbeats 4000000
namespace Nm
open PySem PySem.Spec PyProof.Rows L2
mutual
inductive Dz (H : Hp) : V → PyData → Prop
  | non : Dz H .non .none
  | bl (b : Bool) : Dz H (.bl b) (.bool b)
  | int (i : Int) : Dz H (.int i) (.int i)
  | str (x : Str) : Dz H (.str x) (.str x)
  | lst {a : Addr} {xs : List V} {ds : List PyData} : H a = some (.lst xs) → DzAll H xs ds → Dz H (.ref a) (.list ds)
  | tup {a : Addr} {xs : List V} {ds : List PyData} : H a = some (.tup xs) → DzAll H xs ds → Dz H (.ref a) (.tuple ds)
inductive DzAll (H : Hp) : List V → List PyData → Prop
  | nil : DzAll H [] []
  | cons {v : V} {vs : List V} {d : PyData} {ds : List PyData} : Dz H v d → DzAll H vs ds → DzAll H (v :: vs) (d :: ds)
end
section
variable {X : Cx} {pins : List (Addr × Obj)} {σ : L2.St} {H : Hp} {s : Shared}
theorem Dz.nd {H : Hp} {v : V} {d : PyData} (h : Dz H v d) : d.hasDict = false := by
  induction h using Dz.rec (motive_2 := fun vs ds _ => PyData.hasDictAll ds = false) with
  | non => rfl
  | bl b => rfl
  | int i => rfl
  | str x => rfl
  | lst e _ ih => simpa [PyData.hasDict] using ih
  | tup e _ ih => simpa [PyData.hasDict] using ih
  | nil => rfl
  | cons _ _ h1 h2 => simp [PyData.hasDictAll, h1, h2]
theorem Dz.same {H H' : Hp} (s : Same H H') {v : V} {d : PyData} (h : Dz H v d) : Dz H' v d := by
  induction h using Dz.rec (motive_2 := fun vs ds _ => DzAll H' vs ds) with
  | non => exact .non
  | bl b => exact .bl b
  | int i => exact .int i
  | str x => exact .str x
  | lst e _ ih => exact .lst (s _ _ e) ih
  | tup e _ ih => exact .tup (s _ _ e) ih
  | nil => exact .nil
  | cons _ _ h1 h2 => exact .cons h1 h2
theorem Dz.dp {K : Fg} {H : Hp} {v : V} {d : PyData} (h : Dz H v d) : Dp K H v d := by
  induction h using Dz.rec (motive_2 := fun vs ds _ => DpAll K H vs ds) with
  | non => exact .non
  | bl b => exact .bl b
  | int i => exact .int i
  | str x => exact .str x
  | lst e _ ih => exact .lst (Evl.sq_of e) ih
  | tup e _ ih => exact .tup (Evl.st_of e) ih
  | nil => exact .nil
  | cons _ _ h1 h2 => exact .cons h1 h2
end
def srt (l : List Nat) : List Nat := l.mergeSort (fun a b => decide (a ≤ b))
section
open Evl
variable {K : Fg} {σ : L2.St} {H H' : Hp} {ta tb tc td te ty tx tl : TE} {t u : TT} {a : Addr} {kvs : List (Key × V)}
/-- sorted of a dict whose keys are signs -/
def rSortD : List V → Hp → VK → Prop := fun xs H Q => ∃ (a : Addr) (kvs : List (Key × V)) (ks : List Str), xs = [.ref a] ∧ Rd H a (.dK kvs) ∧ kvs.map (·.1) = ks.map Sum.inr ∧ ks.length < 64 ∧
    ∀ ys p, ys.Perm ks → sortedS ys = true → H p = none → Q (.ref p) (upd H p (.lst (ys.map V.str)))
abbrev Pr := List Nat × List Nat
abbrev prV (q : Pr) : List V := [.str (stL q.1), .str (stL q.2)]
abbrev PrsAt (H : Hp) (as : List Addr) (ps : List Pr) : Prop := Paired (fun a q => H a = some (.tup (prV q))) as ps
theorem PrsAt.same {as : List Addr} {ps : List Pr} (h : PrsAt H as ps) (s : Same H H') : PrsAt H' as ps := Paired.mapP h fun _ _ e => s _ _ e
theorem PrsAt.len {as : List Addr} {ps : List Pr} (h : PrsAt H as ps) : as.length = ps.length := Paired.length h
end
end Nm
set_option Elab.async false
set_option linter.all false
set_option maxRecDepth 100000
set_option maxHeartbeats 4000000
set_option Elab.async false
set_option linter.all false
set_option maxRecDepth 100000
set_option maxHeartbeats 4000000
namespace Nm
open PySem PySem.Spec PyProof.Rows L2
theorem sgn_low {c : Nat} (h : sgn c = true) : c < 1000 := by
  have h1 : SIGNS.cps.toList.all (fun c => decide (c < 1000)) = true := by decide +kernel
  exact of_decide_eq_true (List.all_eq_true.mp h1 c (of_decide_eq_true h))
structure PrOk (q : Pr) : Prop where
  l1 : q.1.length ≤ 50
  l2 : q.2.length ≤ 50
  c1 : ∀ c ∈ q.1, c < 1000
  c2 : ∀ c ∈ q.2, c < 1000
theorem PrOk.of {q : Pr} (h1 : Wd q.1 3) (h2 : Wd q.2 3) : PrOk q := ⟨by have := h1.le; omega, by have := h2.le; omega, fun c hc => sgn_low (h1.sg c hc), fun c hc => sgn_low (h2.sg c hc)⟩
section
open Evl
variable {K : Fg} {σ : L2.St} {H H' : Hp} {ta tb tc td te ty tx tl tf : TE} {t u : TT} {a p : Addr} {kvs : List (Key × V)}
abbrev Ru := Fds × Mks
def RuAt (H : Hp) (t : Addr) (r : Ru) : Prop := ∃ pf pm, H t = some (.tup [.ref pf, .ref pm]) ∧ H pf = some (.dK (kF r.1)) ∧ H pm = some (.dK (kM r.2))
theorem RuAt.same {t : Addr} {r : Ru} (h : RuAt H t r) (s : Same H H') : RuAt H' t r := by
  obtain ⟨pf, pm, h1, h2, h3⟩ := h
  exact ⟨pf, pm, s _ _ h1, s _ _ h2, s _ _ h3⟩
end
end Nm
set_option Elab.async false
set_option linter.all false
set_option maxRecDepth 100000
set_option maxHeartbeats 4000000
set_option Elab.async false
set_option linter.all false
set_option maxRecDepth 100000
set_option maxHeartbeats 4000000
set_option Elab.async false
set_option linter.all false
set_option maxRecDepth 100000
set_option maxHeartbeats 4000000
namespace Nm
open PySem PySem.Spec PyProof.Rows L2
def two (n : Nat) : Str := if n < 10 then (⟨#[48, 48 + n]⟩ : Str) else ⟨#[]⟩
end Nm
set_option Elab.async false
set_option linter.all false
set_option maxRecDepth 100000
set_option maxHeartbeats 4000000
namespace Nm
open PySem PySem.Spec PyProof.Rows L2
def flatP : V → V → Bool
  | .str _, .str _ => true
  | .int _, .int _ => true
  | _, _ => false
def flatE : V → V → Bool
  | .str a, .str b => a == b
  | .int a, .int b => a == b
  | _, _ => false
theorem eqAt_flat {A : Around} {s : Shared} {v v' : V} {u u' : Value} (r : RelV v u) (r' : RelV v' u') (f : flatP v v' = true) : SeqAt.EqAt A s u u' (flatE v v') := by
  cases v <;> cases v' <;> first | exact absurd (show false = true from f) Bool.false_ne_true | skip
  · obtain ⟨t, rfl⟩ := r
    obtain ⟨t', rfl⟩ := r'
    exact SeqAt.EqAt.int_int (A := A) (s := s) _ t _ t'
  · obtain ⟨t, rfl⟩ := r
    obtain ⟨t', rfl⟩ := r'
    exact SeqAt.EqAt.str_str (A := A) (s := s) _ t _ t'
def kvAll (ls : List (Key × V)) : List (Key × V) → Bool
  | [] => true
  | p :: r => (match valV ls p.1 with
    | some v => flatE p.2 v
    | none => false) && kvAll ls r
theorem hits_gen {A : Around} {s : Shared} {ls : List (Key × V)} {vb : List (Key × Value)} (rb : KV ls vb) {ks : List (Key × V)} {va : List (Key × Value)} (ra : KV ks va) :
    (∀ p ∈ ks, ∀ v, valV ls p.1 = some v → flatP p.2 v = true) → PySem.W.KeqHits A s vb va (kvAll ls ks) := by
  unfold KV at ra
  induction ra with
  | nil => intro _; exact .nil
  | @cons p q ps qs h t ih =>
    intro hp
    obtain ⟨h1, h2⟩ := h
    obtain ⟨k, v⟩ := q
    have h1' : p.1 = k := h1
    have hv := rb.val p.1
    show PySem.W.KeqHits A s vb ((k, v) :: qs) ((match valV ls p.1 with | some v => flatE p.2 v | none => false) && kvAll ls ps)
    cases e : valV ls p.1 with
    | none =>
      rw [e, h1'] at hv
      cases e2 : valueAt vb k with
      | none => exact .miss e2
      | some y => rw [e2] at hv; exact absurd hv (by intro z; cases z)
    | some z =>
      have f := hp p List.mem_cons_self z e
      have rr : RelO (some z) (valueAt vb p.1) := by rw [← e]; exact rb.val p.1
      obtain ⟨y, hy, ry⟩ := rr.some_of
      rw [h1'] at hy
      exact .hit hy (eqAt_flat h2 ry f) (ih fun p' hm => hp p' (List.mem_cons_of_mem _ hm))
end Nm
set_option Elab.async false
set_option linter.all false
set_option maxRecDepth 100000
set_option maxHeartbeats 4000000
set_option Elab.async false
set_option linter.all false
set_option maxRecDepth 100000
set_option maxHeartbeats 4000000
set_option Elab.async false
set_option linter.all false
set_option maxRecDepth 100000
set_option maxHeartbeats 4000000
namespace Nm
open PySem PySem.Spec PyProof.Rows L2 Evl
/-- the data at v lies in what is new between H and H' -/
def FD (H H' : Hp) (v : V) (d : PyData) : Prop := ∀ G : Hp, (∀ a o, H a = none → H' a = some o → G a = some o) → Dz G v d
def FDs (H H' : Hp) (vs : List V) (ds : List PyData) : Prop := ∀ G : Hp, (∀ a o, H a = none → H' a = some o → G a = some o) → DzAll G vs ds
theorem FD.to {H0 H H' H2 : Hp} {v : V} {d : PyData} (h : FD H H' v d) (e0 : Ex H0 H) (e2 : Ex H' H2) : FD H0 H2 v d := fun G g => h G fun a o n s => g a o (fresh_back e0 n) (e2 _ _ s)
theorem FDs.to {H0 H H' H2 : Hp} {v : List V} {d : List PyData} (h : FDs H H' v d) (e0 : Ex H0 H) (e2 : Ex H' H2) : FDs H0 H2 v d := fun G g => h G fun a o n s => g a o (fresh_back e0 n) (e2 _ _ s)
theorem DzAll.app {H : Hp} : ∀ {vs ws : List V} {ds es : List PyData}, DzAll H vs ds → DzAll H ws es → DzAll H (vs ++ ws) (ds ++ es)
  | _, _, _, _, .nil, h => h
  | _, _, _, _, .cons a b, h => .cons a (DzAll.app b h)
theorem DzAll.len {H : Hp} : ∀ {vs : List V} {ds : List PyData}, DzAll H vs ds → vs.length = ds.length
  | _, _, .nil => rfl
  | _, _, .cons _ t => by rw [List.length_cons, List.length_cons, DzAll.len t]
theorem DzAll.get {H : Hp} : ∀ {vs : List V} {ds : List PyData}, DzAll H vs ds → ∀ (i : Nat) (d : PyData), ds[i]? = some d → ∃ v, vs[i]? = some v ∧ Dz H v d
  | _, _, .cons (v := v) a t, 0, d, h => by cases h; exact ⟨v, rfl, a⟩
  | _, _, .cons a t, i + 1, d, h => DzAll.get t i d h
theorem DzAll.got {H : Hp} : ∀ {vs : List V} {ds : List PyData}, DzAll H vs ds → ∀ (i : Nat) (v : V), vs[i]? = some v → ∃ d, ds[i]? = some d ∧ Dz H v d
  | _, _, .cons (d := d) a t, 0, v, h => by cases h; exact ⟨d, rfl, a⟩
  | _, _, .cons a t, i + 1, v, h => DzAll.got t i v h
theorem DzAll.two {H : Hp} {vs : List V} {a b : PyData} (h : DzAll H vs [a, b]) : ∃ x y, vs = [x, y] ∧ Dz H x a ∧ Dz H y b := by
  cases h with
  | cons h1 t => cases t with
    | cons h2 t => cases t; exact ⟨_, _, rfl, h1, h2⟩
section
variable {K : Fg} {te ta' tb : TE} {ta : TA} {σ : L2.St} {H : Hp}
/-- a new list of data, to be changed later: the data lies outside of it -/
structure LD (H G : Hp) (p : Addr) (ds : List PyData) : Prop where
  fr : H p = none
  ex : Ex H G
  at' : ∃ vs, G p = some (.lst vs) ∧ ∀ G' : Hp, (∀ a o, a ≠ p → H a = none → G a = some o → G' a = some o) → DzAll G' vs ds
theorem LD.of {H H1 H2 : Hp} {p : Addr} {ds : List PyData} {vs : List V} (e : Ex H H1) (e2 : Ex H1 H2) (n : H2 p = none) (f : FDs H1 H2 vs ds) : LD H (upd H2 p (.lst vs)) p ds :=
  ⟨fresh_back (e.trans e2) n, (e.trans e2).trans (Ex.new n), vs, upd_same, fun G' g => f G' fun a o n1 s => g a o (ne_of_none s n) (fresh_back e n1) ((upd_ne (ne_of_none s n)).trans s)⟩
variable {tz : TS} {D : Ends} {i : Nat} {ds : List PyData} {H0 : Hp} {p : Addr}
end
end Nm
set_option Elab.async false
set_option linter.all false
set_option maxRecDepth 100000
set_option maxHeartbeats 4000000
namespace Nm
open PySem PySem.Spec PyProof.Rows L2
def txOf : Value → Str
  | .str x _ => x
  | _ => Str.empty
def GoodT (P : Program) (w : World) (m : Int × Value) : Prop := ∃ x u, m.2 = .str x u ∧ m.1 = (strKind P w).hash x
/-- a set of texts: S its members, at most n of them; its table can be walked -/
def TSet (P : Program) (w : World) (g : Heap) (a : Addr) (S : Str → Bool) (n : Nat) : Prop :=
  ∃ ob ms ec tb, g.get? a = some ob ∧ ob.ExactSet ∧ ob.data = .set ms ec tb ∧ (∀ m ∈ ms.toList, GoodT P w m) ∧ (ms.toList.map fun m => txOf m.2).Nodup ∧ (∀ x, S x = true ↔ x ∈ ms.toList.map fun m => txOf m.2) ∧
    ms.size ≤ n ∧ tb.fits ms.size = true ∧ Ris tb.place.toList ∧ (w.params.followText "set-order" = true ∨ tb.led = true)
section
variable {P : Program} {w : World} {g g' : Heap} {a : Addr} {S S' : Str → Bool} {n : Nat}
theorem TSet.at (T : TSet P w g a S n) (k : ∀ ob, g.get? a = some ob → g'.get? a = some ob) : TSet P w g' a S n := by
  obtain ⟨ob, ms, ec, tb, go, r⟩ := T
  exact ⟨ob, ms, ec, tb, k ob go, r⟩
end
end Nm
set_option Elab.async false
set_option linter.all false
set_option maxRecDepth 100000
set_option maxHeartbeats 4000000
namespace Nm
open PySem PySem.Spec PyProof.Rows L2
section
variable {X : Cx}
def rSortA (K : PySem.W.Frag) : List V → Hp → VK → Prop := fun vs H Q => ∃ (l : Addr) (xs : List Str), vs = [.ref l] ∧ SqL K H l (xs.map V.str) ∧ xs.length ≤ 100000 ∧ ∀ (ys : List Str) (p : Addr), ys.Perm xs → sortedS ys = true → H p = none → Q (.ref p) (upd H p (.lst (ys.map V.str)))
theorem cr_sortA : CallR X (.builtin "sorted") (rSortA X.K) := by
  rintro pins s σ H vs us Q I r ⟨l, xs, rfl, hl, hn, q⟩
  obtain ⟨is, rv, pl, _⟩ := I.list hl
  obtain ⟨_, rfl, rx⟩ := vals1 r
  cases rx
  have sa : StrsAre is xs := strsAre_of rv
  have len : is.length = xs.length := StrsAre.len_eq sa
  refine sorted_strsAny pl.isList sa (Nat.le_trans (by omega : is.length ≤ 100000) (by decide)) fun out ys y1 y2 y3 => ?_
  obtain ⟨c, hc⟩ := sortedAll_at s.heap is out
  have fr : H (s.heap.objs.size + 1) = none := I.hok.fresh (Nat.le_succ _)
  have kp : ∀ b o, s.heap.get? b = some o → (sortedAll s.heap is out).get? b = some o := fun _ _ => sortedAll_old
  have sz : (ys.map V.str).length ≤ sizeLine := by
    rw [List.length_map, y2.length_eq]
    exact Nat.le_trans (by omega : xs.length ≤ 100000) (by decide)
  exact ⟨.ref _, upd H (s.heap.objs.size + 1) (.lst (ys.map V.str)), I.laid (t' := s.toks) kp (Nat.le_succ _) ⟨sz, out.toList, c, vals_of_strs y1, hc⟩, rfl, q ys _ y2 y3 fr⟩
end
theorem ltCps_irr : ∀ l : List Nat, ltCps l l = false
  | [] => rfl
  | a :: r => by unfold ltCps; simp [ltCps_irr r]
theorem ltCps_tri : ∀ a b : List Nat, ltCps a b = false → ltCps b a = false → a = b
  | [], [], _, _ => rfl
  | [], b :: r, h, _ => by simp [ltCps] at h
  | a :: r, [], _, h => by simp [ltCps] at h
  | a :: r, b :: t, h1, h2 => by
    unfold ltCps at h1 h2
    by_cases e1 : a < b
    · simp [e1] at h1
    · by_cases e2 : b < a
      · simp [e2] at h2
      · have : a = b := by omega
        subst this
        simp at h1 h2
        rw [ltCps_tri r t h1 h2]
theorem ltCps_trans : ∀ a b c : List Nat, ltCps a b = true → ltCps b c = true → ltCps a c = true
  | [], [], _, h, _ => by simp [ltCps] at h
  | [], _ :: _, [], _, h => by simp [ltCps] at h
  | [], _ :: _, _ :: _, _, _ => rfl
  | _ :: _, [], _, h, _ => by simp [ltCps] at h
  | _ :: _, _ :: _, [], _, h => by simp [ltCps] at h
  | a :: r, b :: t, c :: v, h1, h2 => by
    unfold ltCps at h1 h2 ⊢
    rw [Bool.or_eq_true, Bool.and_eq_true, decide_eq_true_eq, beq_iff_eq] at h1 h2 ⊢
    rcases h1 with h1 | ⟨rfl, h1⟩
    · rcases h2 with h2 | ⟨rfl, _⟩
      · exact .inl (by omega)
      · exact .inl h1
    · rcases h2 with h2 | ⟨rfl, h2⟩
      · exact .inl h2
      · exact .inr ⟨rfl, ltCps_trans r t v h1 h2⟩
/-- not above: an order in which texts are sorted -/
def leS (x y : Str) : Prop := ltCps y.cps.toList x.cps.toList = false
theorem leS_trans {x y z : Str} (h1 : leS x y) (h2 : leS y z) : leS x z := by
  unfold leS at h1 h2 ⊢
  cases h : ltCps z.cps.toList x.cps.toList with
  | false => rfl
  | true =>
    cases hy : ltCps y.cps.toList z.cps.toList with
    | true => rw [ltCps_trans _ _ _ hy h] at h1; cases h1
    | false => rw [ltCps_tri _ _ hy h2] at h1; rw [h] at h1; cases h1
theorem leS_anti {x y : Str} (h1 : leS x y) (h2 : leS y x) : x = y := Str.ext' (Array.toList_inj.mp (ltCps_tri _ _ h2 h1))
theorem rising_pw : ∀ {l : List Str} {p : Str}, risingS p l = true → (p :: l).Pairwise leS
  | [], p, _ => List.pairwise_singleton ..
  | x :: r, p, h => by
    have h : (!ltCps x.cps.toList p.cps.toList && risingS x r) = true := h
    rw [Bool.and_eq_true] at h
    have h1 : leS p x := by simpa [leS] using h.1
    have ih := rising_pw h.2
    refine List.pairwise_cons.mpr ⟨fun y hy => ?_, ih⟩
    rcases List.mem_cons.mp hy with e | m
    · exact e ▸ h1
    · exact leS_trans h1 ((List.pairwise_cons.mp ih).1 y m)
theorem sorted_pw {l : List Str} (h : sortedS l = true) : l.Pairwise leS := by
  cases l with
  | nil => exact List.Pairwise.nil
  | cons x r => exact rising_pw h
theorem pw_sorted : ∀ {l : List Str}, l.Pairwise leS → sortedS l = true
  | [], _ => rfl
  | [x], _ => rfl
  | x :: y :: r, h => by
    obtain ⟨h1, h2⟩ := List.pairwise_cons.mp h
    have h3 : leS x y := h1 y (List.mem_cons_self ..)
    show (!ltCps y.cps.toList x.cps.toList && risingS y r) = true
    have h4 : risingS y r = true := pw_sorted (l := y :: r) h2
    unfold leS at h3
    rw [h3, h4]
    rfl
theorem one_order {α : Type} {r : α → α → Prop} (anti : ∀ a b, r a b → r b a → a = b) : ∀ {l m : List α}, l.Perm m → l.Pairwise r → m.Pairwise r → l = m
  | [], m, h, _, _ => h.nil_eq
  | x :: l, [], h, _, _ => absurd h.length_eq (by simp)
  | x :: l, y :: m, h, h1, h2 => by
    obtain ⟨a1, a2⟩ := List.pairwise_cons.mp h1
    obtain ⟨b1, b2⟩ := List.pairwise_cons.mp h2
    have e : x = y := by
      rcases List.mem_cons.mp (h.mem_iff.mp (List.mem_cons_self ..)) with e | hx
      · exact e
      · rcases List.mem_cons.mp (h.mem_iff.mpr (List.mem_cons_self ..)) with e | hy
        · exact e.symm
        · exact anti _ _ (a1 y hy) (b1 x hx)
    subst e
    rw [one_order anti (List.Perm.cons_inv h) a2 b2]
theorem sorted_eq {l m : List Str} (p : l.Perm m) (h1 : sortedS l = true) (h2 : sortedS m = true) : l = m := one_order (fun _ _ => leS_anti) p (sorted_pw h1) (sorted_pw h2)
end Nm
set_option Elab.async false
set_option linter.all false
set_option maxRecDepth 100000
set_option maxHeartbeats 4000000
set_option Elab.async false
set_option linter.all false
set_option maxRecDepth 100000
set_option maxHeartbeats 4000000
namespace Nm
open PySem PySem.Spec PyProof.Rows L2 Evl
inductive D where
  | v (x : V)
  | lst (ds : List D)
  | lsk (ds : List D)
  | tup (ds : List D)
  | tpk (ds : List D)
  | dic (kvs : List (Key × D))
  | dit (kvs : List (List Key × D))
  | obj (n : Nat)
  | ins (c : Str) (fs : List (Str × D))
  | cls (c : Str)
  | exn (c : Str) (fs : List (Str × D))
  | exv (c : Str) (fs : List (Str × D))
  deriving Inhabited
/-- tb: the tables of code objects of defs that make functions -/
structure Gm where
  K : Fg
  cl : Str → Option Addr
  tb : List (Addr × Str) := []
mutual
inductive Rp (Γ : Gm) (F : Hp) (φ : List Addr) : V → D → Prop
  | v (x : V) : Rp Γ F φ x (.v x)
  | lst {a : Addr} {xs : List V} {ds : List D} : F a = some (.lst xs) → RpAll Γ F φ xs ds → Rp Γ F φ (.ref a) (.lst ds)
  | lsk {a : Addr} {xs : List V} {ds : List D} : SqL Γ.K F a xs → RpAll Γ F φ xs ds → Rp Γ F φ (.ref a) (.lsk ds)
  | tup {a : Addr} {xs : List V} {ds : List D} : F a = some (.tup xs) → RpAll Γ F φ xs ds → Rp Γ F φ (.ref a) (.tup ds)
  | tpk {a : Addr} {xs : List V} {ds : List D} : SqT Γ.K F a xs → RpAll Γ F φ xs ds → Rp Γ F φ (.ref a) (.tpk ds)
  | dic {a : Addr} {ks : List (Key × V)} {ds : List (Key × D)} : Rd F a (.dK ks) → RpKv Γ F φ ks ds → Rp Γ F φ (.ref a) (.dic ds)
  | dit {a : Addr} {ks : List (List Key × V)} {ds : List (List Key × D)} : Rd F a (.dT ks) → RpKt Γ F φ ks ds → Rp Γ F φ (.ref a) (.dit ds)
  | obj {a : Addr} {n : Nat} : φ[n]? = some a → Rp Γ F φ (.ref a) (.obj n)
  | ins {a C dx : Addr} {c : Str} {fs : List (Str × V)} {ds : List (Str × D)} : Γ.cl c = some C → F a = some (.ins C dx fs) → RpFs Γ F φ fs ds → Rp Γ F φ (.ref a) (.ins c ds)
  | cls {C : Addr} {c : Str} : Γ.cl c = some C → Rp Γ F φ (.ref C) (.cls c)
  | exv {a C dx : Addr} {c : Str} {fs : List (Str × V)} {ds : List (Str × D)} : Γ.cl c = some C → F a = some (exo a C (some dx)) → F dx = some (exd dx fs) → RpFs Γ F φ fs ds → Rp Γ F φ (.ref a) (.exv c ds)
  | exw {a C : Addr} {c : Str} : Γ.cl c = some C → F a = some (exo a C none) → Rp Γ F φ (.ref a) (.exv c [])
inductive RpAll (Γ : Gm) (F : Hp) (φ : List Addr) : List V → List D → Prop
  | nil : RpAll Γ F φ [] []
  | cons {x : V} {d : D} {xs : List V} {ds : List D} : Rp Γ F φ x d → RpAll Γ F φ xs ds → RpAll Γ F φ (x :: xs) (d :: ds)
inductive RpKv (Γ : Gm) (F : Hp) (φ : List Addr) : List (Key × V) → List (Key × D) → Prop
  | kn : RpKv Γ F φ [] []
  | kc {k : Key} {x : V} {d : D} {xs : List (Key × V)} {ds : List (Key × D)} : Rp Γ F φ x d → RpKv Γ F φ xs ds → RpKv Γ F φ ((k, x) :: xs) ((k, d) :: ds)
inductive RpKt (Γ : Gm) (F : Hp) (φ : List Addr) : List (List Key × V) → List (List Key × D) → Prop
  | tn : RpKt Γ F φ [] []
  | tc {k : List Key} {x : V} {d : D} {xs : List (List Key × V)} {ds : List (List Key × D)} : Rp Γ F φ x d → RpKt Γ F φ xs ds → RpKt Γ F φ ((k, x) :: xs) ((k, d) :: ds)
inductive RpFs (Γ : Gm) (F : Hp) (φ : List Addr) : List (Str × V) → List (Str × D) → Prop
  | fn : RpFs Γ F φ [] []
  | fc {k : Str} {x : V} {d : D} {xs : List (Str × V)} {ds : List (Str × D)} : Rp Γ F φ x d → RpFs Γ F φ xs ds → RpFs Γ F φ ((k, x) :: xs) ((k, d) :: ds)
end
/-- what is read in F is read in F' -/
structure Le (F F' : Hp) : Prop where
  rd : ∀ a u, (∀ o w, u ≠ HO.frz o w) → Rd F a u → Rd F' a u
  ls : ∀ a xs, F a = some (.lst xs) → F' a = some (.lst xs)
  tu : ∀ a xs, F a = some (.tup xs) → F' a = some (.tup xs)
  is : ∀ a C dx fs, F a = some (.ins C dx fs) → F' a = some (.ins C dx fs)
  xt : ∀ a ψ, F a = some (.ext ψ) → F' a = some (.ext ψ)
theorem Le.refl (F : Hp) : Le F F := ⟨fun _ _ _ h => h, fun _ _ h => h, fun _ _ h => h, fun _ _ _ _ h => h, fun _ _ h => h⟩
theorem Le.of {F F' : Hp} (e : Ex F F') : Le F F' := ⟨fun a u _ h => ex_rd e h, fun a xs h => e _ _ h, fun a xs h => e _ _ h, fun a _ _ _ h => e _ _ h, fun a _ h => e _ _ h⟩
theorem Le.trans {F G M : Hp} (a : Le F G) (b : Le G M) : Le F M := ⟨fun x u n h => b.rd x u n (a.rd x u n h), fun x u h => b.ls x u (a.ls x u h), fun x u h => b.tu x u (a.tu x u h), fun x _ _ _ h => b.is x _ _ _ (a.is x _ _ _ h), fun x _ h => b.xt x _ (a.xt x _ h)⟩
theorem Le.sq {K : Fg} {F F' : Hp} {a : Addr} {xs : List V} (l : Le F F') (h : SqL K F a xs) : SqL K F' a xs := h.imp (l.rd a _ (by intro o w e; cases e)) id
theorem Le.st {K : Fg} {F F' : Hp} {a : Addr} {xs : List V} (l : Le F F') (h : SqT K F a xs) : SqT K F' a xs := h.imp (l.rd a _ (by intro o w e; cases e)) id
section
variable {Γ : Gm} {F F' : Hp} {φ φ' : List Addr}
theorem pre_get {α : Type} {l m : List α} {n : Nat} {x : α} (p : l <+: m) (h : l[n]? = some x) : m[n]? = some x := by
  obtain ⟨r, rfl⟩ := p
  rw [List.getElem?_append_left (List.getElem?_eq_some_iff.mp h).1]
  exact h
theorem Rp.mono {v : V} {d : D} (l : Le F F') (p : φ <+: φ') (h : Rp Γ F φ v d) : Rp Γ F' φ' v d := by
  induction h using Rp.rec (motive_2 := fun xs ds _ => RpAll Γ F' φ' xs ds) (motive_3 := fun xs ds _ => RpKv Γ F' φ' xs ds) (motive_4 := fun xs ds _ => RpKt Γ F' φ' xs ds) (motive_5 := fun xs ds _ => RpFs Γ F' φ' xs ds) with
  | v x => exact .v x
  | lst h _ ih => exact .lst (l.ls _ _ h) ih
  | lsk h _ ih => exact .lsk (l.sq h) ih
  | tup h _ ih => exact .tup (l.tu _ _ h) ih
  | tpk h _ ih => exact .tpk (l.st h) ih
  | dic h _ ih => exact .dic (l.rd _ _ (by intro o w e; cases e) h) ih
  | dit h _ ih => exact .dit (l.rd _ _ (by intro o w e; cases e) h) ih
  | obj h => exact .obj (pre_get p h)
  | ins c h _ ih => exact .ins c (l.is _ _ _ _ h) ih
  | cls c => exact .cls c
  | exv c h1 h2 _ ih => exact .exv c (l.xt _ _ h1) (l.xt _ _ h2) ih
  | exw c h => exact .exw c (l.xt _ _ h)
  | nil => exact .nil
  | cons _ _ h1 h2 => exact .cons h1 h2
  | kn => exact .kn
  | kc _ _ h1 h2 => exact .kc h1 h2
  | tn => exact .tn
  | tc _ _ h1 h2 => exact .tc h1 h2
  | fn => exact .fn
  | fc _ _ h1 h2 => exact .fc h1 h2
theorem RpAll.mono (l : Le F F') (p : φ <+: φ') : ∀ {xs : List V} {ds : List D}, RpAll Γ F φ xs ds → RpAll Γ F' φ' xs ds
  | _, _, .nil => .nil
  | _, _, .cons h t => .cons (h.mono l p) (t.mono l p)
theorem RpKv.mono (l : Le F F') (p : φ <+: φ') : ∀ {xs : List (Key × V)} {ds : List (Key × D)}, RpKv Γ F φ xs ds → RpKv Γ F' φ' xs ds
  | _, _, .kn => .kn
  | _, _, .kc h t => .kc (h.mono l p) (t.mono l p)
theorem RpKt.mono (l : Le F F') (p : φ <+: φ') : ∀ {xs : List (List Key × V)} {ds : List (List Key × D)}, RpKt Γ F φ xs ds → RpKt Γ F' φ' xs ds
  | _, _, .tn => .tn
  | _, _, .tc h t => .tc (h.mono l p) (t.mono l p)
theorem RpFs.mono (l : Le F F') (p : φ <+: φ') : ∀ {xs : List (Str × V)} {ds : List (Str × D)}, RpFs Γ F φ xs ds → RpFs Γ F' φ' xs ds
  | _, _, .fn => .fn
  | _, _, .fc h t => .fc (h.mono l p) (t.mono l p)
theorem RpAll.len : ∀ {xs : List V} {ds : List D}, RpAll Γ F φ xs ds → xs.length = ds.length
  | _, _, .nil => rfl
  | _, _, .cons _ t => by rw [List.length_cons, List.length_cons, t.len]
theorem RpAll.app : ∀ {xs ys : List V} {ds es : List D}, RpAll Γ F φ xs ds → RpAll Γ F φ ys es → RpAll Γ F φ (xs ++ ys) (ds ++ es)
  | _, _, _, _, .nil, g => g
  | _, _, _, _, .cons h t, g => .cons h (t.app g)
theorem RpAll.get : ∀ {xs : List V} {ds : List D}, RpAll Γ F φ xs ds → ∀ (i : Nat) (d : D), ds[i]? = some d → ∃ v, xs[i]? = some v ∧ Rp Γ F φ v d
  | _, _, .nil, i, d, h => by cases i <;> cases h
  | _, _, .cons p t, 0, d, h => by cases h; exact ⟨_, rfl, p⟩
  | _, _, .cons p t, i + 1, d, h => t.get i d h
theorem RpAll.got : ∀ {xs : List V} {ds : List D}, RpAll Γ F φ xs ds → ∀ (i : Nat) (v : V), xs[i]? = some v → ∃ d, ds[i]? = some d ∧ Rp Γ F φ v d
  | _, _, .nil, i, d, h => by cases i <;> cases h
  | _, _, .cons p t, 0, d, h => by cases h; exact ⟨_, rfl, p⟩
  | _, _, .cons p t, i + 1, d, h => t.got i d h
theorem RpAll.vs : ∀ (xs : List V), RpAll Γ F φ xs (xs.map D.v)
  | [] => .nil
  | x :: r => .cons (.v x) (RpAll.vs r)
theorem RpKv.len : ∀ {xs : List (Key × V)} {ds : List (Key × D)}, RpKv Γ F φ xs ds → xs.length = ds.length
  | _, _, .kn => rfl
  | _, _, .kc _ t => by rw [List.length_cons, List.length_cons, t.len]
theorem RpKt.len : ∀ {xs : List (List Key × V)} {ds : List (List Key × D)}, RpKt Γ F φ xs ds → xs.length = ds.length
  | _, _, .tn => rfl
  | _, _, .tc _ t => by rw [List.length_cons, List.length_cons, t.len]
end
inductive Cell where
  | lst (ds : List D)
  | dic (kvs : List (Key × D))
  | ins (c : Str) (fs : List (Str × D))
  | free
  | hdl (ds : List D)
  | hdd (kvs : List (Key × D))
  | dit (kvs : List (List Key × D))
  deriving Inhabited
abbrev GS := List Cell
def CellAt (Γ : Gm) (F : Hp) (φ : List Addr) (H : Hp) (a : Addr) : Cell → Prop
  | .lst ds => ∃ xs, H a = some (.lst xs) ∧ RpAll Γ F φ xs ds
  | .dic kvs => ∃ ks, H a = some (.dK ks) ∧ RpKv Γ F φ ks kvs
  | .ins c fs => ∃ C dx gs, Γ.cl c = some C ∧ H a = some (.ins C dx gs) ∧ RpFs Γ F φ gs fs
  | .free => True
  | .hdl ds => ∃ xs, H a = some (.lst xs) ∧ RpAll Γ F φ xs ds
  | .hdd kvs => ∃ od ks, H a = some (.frz od (.dK ks)) ∧ RpKv Γ F φ ks kvs
  | .dit kvs => ∃ ks, H a = some (.dT ks) ∧ RpKt Γ F φ ks kvs
theorem CellAt.mono {Γ : Gm} {F F' H H' : Hp} {φ φ' : List Addr} {a : Addr} {c : Cell} (l : Le F F') (p : φ <+: φ') (e : ∀ o, H a = some o → H' a = some o) (h : CellAt Γ F φ H a c) : CellAt Γ F' φ' H' a c := by
  cases c with
  | lst ds => obtain ⟨xs, h1, h2⟩ := h; exact ⟨xs, e _ h1, h2.mono l p⟩
  | dic ds => obtain ⟨xs, h1, h2⟩ := h; exact ⟨xs, e _ h1, h2.mono l p⟩
  | ins c fs => obtain ⟨C, dx, gs, h0, h1, h2⟩ := h; exact ⟨C, dx, gs, h0, e _ h1, h2.mono l p⟩
  | free => exact trivial
  | hdl ds => obtain ⟨xs, h1, h2⟩ := h; exact ⟨xs, e _ h1, h2.mono l p⟩
  | hdd ds => obtain ⟨od, xs, h1, h2⟩ := h; exact ⟨od, xs, e _ h1, h2.mono l p⟩
  | dit ds => obtain ⟨xs, h1, h2⟩ := h; exact ⟨xs, e _ h1, h2.mono l p⟩
/-- what is being made, what is held -/
structure Rr where
  r : Hp
  l : Hp
/-- one thing more that is being made -/
def Rr.mk1 (R : Rr) (p : Addr) (o : HO) : Rr := ⟨upd R.r p o, R.l⟩
def RAt (L : Hp) (a : Addr) : Cell → Prop
  | .hdl _ => ∃ xs, L a = some (.lst xs)
  | .hdd _ => ∃ od ks, L a = some (.frz od (.dK ks))
  | _ => L a = none
theorem rm_upd {R : Hp} {p : Addr} {o : HO} (m : ∀ a xs, R a ≠ some (.tup xs)) (ho : ∀ xs, o ≠ .tup xs) : ∀ a xs, upd R p o a ≠ some (.tup xs) := fun a xs e => by
  by_cases h : a = p
  · subst h; rw [upd_same] at e; exact ho xs (Option.some.inj e)
  · rw [upd_ne h] at e; exact m a xs e
theorem rm_done {R : Hp} {p : Addr} {o : HO} (m : ∀ a xs, upd R p o a ≠ some (.tup xs)) (n : R p = none) : ∀ a xs, R a ≠ some (.tup xs) := fun a xs e => by
  have h : a ≠ p := fun h => by rw [h, n] at e; cases e
  exact m a xs ((upd_ne h).trans e)
/-- no table, no object that is told by a word of one's own -/
def okX : HO → Prop
  | .tbl _ => False
  | .ext _ => False
  | _ => True
/-- no table -/
def okT : HO → Prop
  | .tbl _ => False
  | _ => True
theorem okX.t {o : HO} (h : okX o) : okT o := by cases o <;> first | exact h | exact True.intro
theorem okU {k0 : HO → Prop} {B : Hp} {p : Addr} {o : HO} (h : ∀ a u, B a = some u → k0 u) (k : k0 o) : ∀ a u, upd B p o a = some u → k0 u := fun a u e => by
  by_cases z : a = p
  · rw [z, upd_same] at e; cases e; exact k
  · rw [upd_ne z] at e; exact h a u e
theorem okB {k0 : HO → Prop} {B : Hp} {p : Addr} {o : HO} (h : ∀ a u, upd B p o a = some u → k0 u) (n : B p = none) : ∀ a u, B a = some u → k0 u := fun a u e => by
  have z : a ≠ p := fun z => by rw [z, n] at e; cases e
  exact h a u ((upd_ne z).trans e)
theorem tabs_upd {T : List (Addr × Str)} {H : Hp} {p : Addr} {o : HO} (t : LamX.Tabs T H) (h : ∀ u, H p = some u → okX u) : LamX.Tabs T (upd H p o) := fun q hq => by
  obtain ⟨ps, h1, h2, h3⟩ := t q hq
  have ne : ∀ b u, H b = some u → ¬ okX u → b ≠ p := fun b u e k z => k (h u (z ▸ e))
  refine ⟨ps, (upd_ne (ne _ _ h1 id)).trans h1, h2, fun pos cv hc => ?_⟩
  obtain ⟨c, e1, e2⟩ := h3 pos cv hc
  exact ⟨c, e1, (upd_ne (ne _ _ e2 id)).trans e2⟩
/-- the tables stand apart from all that is told by data -/
structure Tb (T : List (Addr × Str)) (F : Hp) (R : Rr) (φ : List Addr) (H : Hp) : Prop where
  t : LamX.Tabs T H
  f : ∀ a o, F a = some o → okT o
  r : ∀ a o, R.r a = some o → okX o
  l : ∀ a o, R.l a = some o → okT o
  p : ∀ a ∈ φ, ∀ o, H a = some o → okX o
section
variable {T : List (Addr × Str)} {F H H' : Hp} {R : Rr} {φ : List Addr} {p : Addr} {o : HO}
theorem Tb.upN (x : Tb T F R φ H) (n : H p = none) (np : p ∉ φ) : Tb T F R φ (upd H p o) := ⟨tabs_upd x.t fun u e => by (rw [n] at e; cases e), x.f, x.r, x.l, fun a ha u e => by
  by_cases z : a = p
  · exact absurd (z ▸ ha) np
  · rw [upd_ne z] at e; exact x.p a ha u e⟩
theorem Tb.up (x : Tb T F R φ H) (h : ∀ u, H p = some u → okX u) (k : okX o) : Tb T F R φ (upd H p o) := ⟨tabs_upd x.t h, x.f, x.r, x.l, fun a ha u e => by
  by_cases z : a = p
  · rw [z, upd_same] at e; cases e; exact k
  · rw [upd_ne z] at e; exact x.p a ha u e⟩
theorem Tb.addF (x : Tb T F R φ H) (k : okT o) : Tb T (upd F p o) R φ H := ⟨x.t, okU x.f k, x.r, x.l, x.p⟩
theorem Tb.addR (x : Tb T F R φ H) (k : okX o) : Tb T F (R.mk1 p o) φ H := ⟨x.t, x.f, okU x.r k, x.l, x.p⟩
theorem Tb.delR (x : Tb T F (R.mk1 p o) φ H) (n : R.r p = none) : Tb T F R φ H := ⟨x.t, x.f, okB x.r n, x.l, x.p⟩
theorem Tb.snoc (x : Tb T F R φ H) (h : ∀ u, H p = some u → okX u) : Tb T F R (φ ++ [p]) H := ⟨x.t, x.f, x.r, x.l, fun a ha u e => by
  rcases List.mem_append.mp ha with z | z
  · exact x.p a z u e
  · rw [List.mem_singleton.mp z] at e; exact h u e⟩
theorem Tb.cut (x : Tb T F R φ H) (n : Nat) : Tb T F R (φ.take n) H := ⟨x.t, x.f, x.r, x.l, fun a ha => x.p a (List.mem_of_mem_take ha)⟩
theorem ok_same : ∀ u, upd H p o p = some u → okX o → okX u := fun u e k => by rw [upd_same] at e; cases e; exact k
theorem ok_none (n : H p = none) : ∀ u, H p = some u → okX u := fun u e => by rw [n] at e; cases e
end
structure GR (Γ : Gm) (F : Hp) (R : Rr) (φ : List Addr) (H : Hp) (st : GS) : Prop where
  f : Ex F H
  r : Ex R.r H
  s : Ex R.l H
  d : ∀ a, F a ≠ none → R.r a = none
  e : ∀ a, R.l a ≠ none → F a = none ∧ R.r a = none ∧ a ∈ φ
  m : ∀ a xs, R.r a ≠ some (.tup xs)
  l : φ.length = st.length
  u : φ.Nodup
  h : ∀ a ∈ φ, H a ≠ none
  c : ∀ (n : Nat) (a : Addr) (c : Cell), φ[n]? = some a → st[n]? = some c → c ≠ .free → F a = none ∧ R.r a = none ∧ CellAt Γ F φ H a c ∧ RAt R.l a c
  x : Tb Γ.tb F R φ H
section
variable {Γ : Gm} {F H : Hp} {R : Rr} {φ : List Addr} {st : GS}
theorem GR.noF (g : GR Γ F R φ H st) {p : Addr} (n : H p = none) : F p = none := by
  cases e : F p with
  | none => rfl
  | some o => rw [g.f _ _ e] at n; cases n
theorem GR.noR (g : GR Γ F R φ H st) {p : Addr} (n : H p = none) : R.r p = none := by
  cases e : R.r p with
  | none => rfl
  | some o => rw [g.r _ _ e] at n; cases n
theorem GR.noL (g : GR Γ F R φ H st) {p : Addr} (n : H p = none) : R.l p = none := by
  cases e : R.l p with
  | none => rfl
  | some o => rw [g.s _ _ e] at n; cases n
theorem GR.noC (g : GR Γ F R φ H st) {p : Addr} (n : H p = none) : p ∉ φ := fun h => g.h p h n
theorem GR.ne (g : GR Γ F R φ H st) {p a : Addr} {n : Nat} (z : H p = none) (h : φ[n]? = some a) : a ≠ p := fun e => g.h a (List.mem_of_getElem? h) (by rw [e]; exact z)
theorem ex_upd {A B : Hp} {p : Addr} {o : HO} (x : Ex A B) (n : A p = none) : Ex A (upd B p o) := fun a u e => by
  have h : a ≠ p := fun h => by rw [h, n] at e; cases e
  rw [upd_ne h]; exact x _ _ e
theorem ex_both {A B : Hp} {p : Addr} {o : HO} (x : Ex A B) : Ex (upd A p o) (upd B p o) := fun a u e => by
  by_cases h : a = p
  · subst h; rw [upd_same] at e ⊢; exact e
  · rw [upd_ne h] at e ⊢; exact x _ _ e
theorem nn_upd {B : Hp} {p a : Addr} {o : HO} (h : B a ≠ none) : upd B p o a ≠ none := by
  by_cases e : a = p
  · rw [e, upd_same]; intro z; cases z
  · rw [upd_ne e]; exact h
/-- a new thing that stays -/
theorem GR.new (g : GR Γ F R φ H st) {p : Addr} (o : HO) (n : H p = none) (ok : okT o := by trivial) : GR Γ (upd F p o) R φ (upd H p o) st := by
  refine ⟨ex_both g.f, ex_upd g.r (g.noR n), ex_upd g.s (g.noL n), fun a e => ?_, fun a e => ?_, g.m, g.l, g.u, fun a ha => nn_upd (g.h a ha), fun k a c h1 h2 h3 => ?_, (g.x.upN n (g.noC n)).addF ok⟩
  · by_cases h : a = p
    · rw [h]; exact g.noR n
    · rw [upd_ne h] at e; exact g.d _ e
  · have h : a ≠ p := fun h => e (by rw [h]; exact g.noL n)
    obtain ⟨e1, e2, e3⟩ := g.e a e
    exact ⟨(upd_ne h).trans e1, e2, e3⟩
  · obtain ⟨a1, a2, a3, a4⟩ := g.c k a c h1 h2 h3
    have ne := g.ne n h1
    exact ⟨(upd_ne ne).trans a1, a2, a3.mono (Le.of (Ex.new (g.noF n))) (List.prefix_refl _) (fun o e => (upd_ne ne).trans e), a4⟩
/-- a new thing that is being made -/
theorem GR.newR (g : GR Γ F R φ H st) {p : Addr} (o : HO) (n : H p = none) (ho : ∀ xs, o ≠ .tup xs := by intro xs z; cases z) (ok : okX o := by trivial) : GR Γ F (R.mk1 p o) φ (upd H p o) st := by
  refine ⟨ex_upd g.f (g.noF n), ex_both g.r, ex_upd g.s (g.noL n), fun a e => ?_, fun a e => ?_, rm_upd g.m ho, g.l, g.u, fun a ha => nn_upd (g.h a ha), fun k a c h1 h2 h3 => ?_, (g.x.up (ok_none n) ok).addR ok⟩
  · have h : a ≠ p := fun h => e (by rw [h]; exact g.noF n)
    exact (upd_ne h).trans (g.d _ e)
  · have h : a ≠ p := fun h => e (by rw [h]; exact g.noL n)
    obtain ⟨e1, e2, e3⟩ := g.e a e
    exact ⟨e1, (upd_ne h).trans e2, e3⟩
  · obtain ⟨a1, a2, a3, a4⟩ := g.c k a c h1 h2 h3
    have ne := g.ne n h1
    exact ⟨a1, (upd_ne ne).trans a2, a3.mono (Le.refl _) (List.prefix_refl _) (fun o e => (upd_ne ne).trans e), a4⟩
/-- it changes -/
theorem GR.setR (g : GR Γ F R φ H st) {p : Addr} {o u : HO} (h : R.r p = some u) (ho : ∀ xs, o ≠ .tup xs := by intro xs z; cases z) (ok : okX o := by trivial) : GR Γ F (R.mk1 p o) φ (upd H p o) st := by
  have nf : F p = none := by
    cases e : F p with
    | none => rfl
    | some o => rw [g.d p (by rw [e]; intro z; cases z)] at h; cases h
  have nl : R.l p = none := by
    cases e : R.l p with
    | none => rfl
    | some o => rw [(g.e p (by rw [e]; intro z; cases z)).2.1] at h; cases h
  refine ⟨ex_upd g.f nf, ex_both g.r, ex_upd g.s nl, fun a e => ?_, fun a e => ?_, rm_upd g.m ho, g.l, g.u, fun a ha => nn_upd (g.h a ha), fun k a c h1 h2 h3 => ?_, (g.x.up (fun u' e => by rw [g.r _ _ h] at e; cases e; exact g.x.r _ _ h) ok).addR ok⟩
  · have h : a ≠ p := fun h => e (by rw [h]; exact nf)
    exact (upd_ne h).trans (g.d _ e)
  · have h : a ≠ p := fun h => e (by rw [h]; exact nl)
    obtain ⟨e1, e2, e3⟩ := g.e a e
    exact ⟨e1, (upd_ne h).trans e2, e3⟩
  · obtain ⟨a1, a2, a3, a4⟩ := g.c k a c h1 h2 h3
    have ne : a ≠ p := fun e => by rw [e, h] at a2; cases a2
    exact ⟨a1, (upd_ne ne).trans a2, a3.mono (Le.refl _) (List.prefix_refl _) (fun o e => (upd_ne ne).trans e), a4⟩
theorem GR.mkF (g : GR Γ F (R.mk1 p o) φ H st) : F p = none := by
  cases e : F p with
  | none => rfl
  | some o =>
    have : upd R.r p _ p = none := g.d p (by rw [e]; intro z; cases z)
    rw [upd_same] at this
    cases this
theorem GR.mkL (g : GR Γ F (R.mk1 p o) φ H st) : R.l p = none := by
  cases e : R.l p with
  | none => rfl
  | some o =>
    have : upd R.r p _ p = none := (g.e p (show R.l p ≠ none by rw [e]; intro z; cases z)).2.1
    rw [upd_same] at this
    cases this
/-- it is made -/
theorem GR.done (g : GR Γ F (R.mk1 p o) φ H st) (n : R.r p = none) : GR Γ (upd F p o) R φ H st := by
  have nf := g.mkF
  have nl := g.mkL
  refine ⟨fun a u e => ?_, fun a u e => ?_, g.s, fun a e => ?_, fun a e => ?_, rm_done g.m n, g.l, g.u, g.h, fun k a c h1 h2 h3 => ?_, (g.x.delR n).addF (g.x.r p o upd_same).t⟩
  · by_cases h : a = p
    · subst h; rw [upd_same] at e; exact g.r _ _ (show upd R.r a o a = _ by rw [upd_same]; exact e)
    · rw [upd_ne h] at e; exact g.f _ _ e
  · have h : a ≠ p := fun h => by rw [h, n] at e; cases e
    exact g.r _ _ ((upd_ne h).trans e)
  · by_cases h : a = p
    · rw [h]; exact n
    · rw [upd_ne h] at e
      exact (upd_ne h).symm.trans (g.d _ e)
  · have h : a ≠ p := fun h => e (by rw [h]; exact nl)
    obtain ⟨e1, e2, e3⟩ := g.e a e
    exact ⟨(upd_ne h).trans e1, (upd_ne h).symm.trans e2, e3⟩
  · obtain ⟨a1, a2, a3, a4⟩ := g.c k a c h1 h2 h3
    have ne : a ≠ p := fun e => by
      have a2 : upd R.r p o a = none := a2
      rw [e, upd_same] at a2; cases a2
    exact ⟨(upd_ne ne).trans a1, (upd_ne ne).symm.trans a2, a3.mono (Le.of (Ex.new nf)) (List.prefix_refl _) (fun o e => e), a4⟩
def isHeld : Cell → Bool
  | .hdl _ => true
  | .hdd _ => true
  | _ => false
theorem RAt.no {L : Hp} {a : Addr} {c : Cell} (h : RAt L a c) (n : isHeld c = false) : L a = none := by
  cases c <;> first | exact h | cases n
theorem RAt.of {L : Hp} {a : Addr} {c : Cell} (h : L a = none) (n : isHeld c = false) : RAt L a c := by
  cases c <;> first | exact h | cases n
theorem RAt.to {L L' : Hp} {a : Addr} {c : Cell} (e : L' a = L a) (h : RAt L a c) : RAt L' a c := by
  cases c <;> (unfold RAt at h ⊢; rw [e]; exact h)
/-- a new cell -/
theorem GR.cell (g : GR Γ F R φ H st) {p : Addr} {o : HO} {c : Cell} (n : H p = none) (hc : CellAt Γ F (φ ++ [p]) (upd H p o) p c) (nh : isHeld c = false := by rfl) (ok : okX o := by trivial) : GR Γ F R (φ ++ [p]) (upd H p o) (st ++ [c]) := by
  have pre : φ <+: φ ++ [p] := List.prefix_append ..
  refine ⟨ex_upd g.f (g.noF n), ex_upd g.r (g.noR n), ex_upd g.s (g.noL n), g.d, fun a e => ?_, g.m, by rw [List.length_append, List.length_append, g.l]; rfl, nd_snoc g.u (g.noC n), fun a ha => ?_, fun k a c' h1 h2 h3 => ?_, (g.x.up (ok_none n) ok).snoc fun u e => ok_same u e ok⟩
  · obtain ⟨e1, e2, e3⟩ := g.e a e
    exact ⟨e1, e2, List.mem_append_left _ e3⟩
  · by_cases e : a = p
    · rw [e, upd_same]; intro z; cases z
    · rw [upd_ne e]
      rcases List.mem_append.mp ha with h | h
      · exact g.h a h
      · exact absurd (List.mem_singleton.mp h) e
  · by_cases hk : k < φ.length
    · rw [List.getElem?_append_left hk] at h1
      rw [List.getElem?_append_left (by rw [← g.l]; exact hk)] at h2
      obtain ⟨a1, a2, a3, a4⟩ := g.c k a c' h1 h2 h3
      have ne := g.ne n h1
      exact ⟨a1, a2, a3.mono (Le.refl _) pre (fun o e => (upd_ne ne).trans e), a4⟩
    · have hk1 := (List.getElem?_eq_some_iff.mp h1).1
      rw [List.length_append] at hk1
      have : k = φ.length := by have : [p].length = 1 := rfl; omega
      subst this
      rw [List.getElem?_append_right (Nat.le_refl _), Nat.sub_self] at h1
      rw [g.l, List.getElem?_append_right (Nat.le_refl _), Nat.sub_self] at h2
      cases h1
      cases h2
      exact ⟨g.noF n, g.noR n, hc, .of (g.noL n) nh⟩
/-- two cells are two things -/
theorem GR.two (g : GR Γ F R φ H st) {k n : Nat} {a b : Addr} (hk : k ≠ n) (h1 : φ[k]? = some b) (h2 : φ[n]? = some a) : b ≠ a := fun e => by
  subst e
  have l1 := List.getElem?_eq_some_iff.mp h2
  have l2 := List.getElem?_eq_some_iff.mp h1
  exact hk ((List.getElem_inj (h₀ := l2.1) (h₁ := l1.1) g.u).mp (l2.2.trans l1.2.symm))
/-- a cell changes -/
theorem GR.set (g : GR Γ F R φ H st) {n : Nat} {a : Addr} {o : HO} {c c' : Cell} (h1 : φ[n]? = some a) (h2 : st[n]? = some c) (h3 : c ≠ .free) (hc : CellAt Γ F φ (upd H a o) a c') (nh : isHeld c = false := by rfl) (nh' : isHeld c' = false := by rfl) (ok : okX o := by trivial) : GR Γ F R φ (upd H a o) (st.set n c') := by
  obtain ⟨a1, a2, a3, a4⟩ := g.c n a c h1 h2 h3
  have nl := a4.no nh
  refine ⟨ex_upd g.f a1, ex_upd g.r a2, ex_upd g.s nl, g.d, g.e, g.m, by rw [List.length_set]; exact g.l, g.u, fun b hb => nn_upd (g.h b hb), fun k b c2 k1 k2 k3 => ?_, g.x.up (g.x.p a (List.mem_of_getElem? h1)) ok⟩
  by_cases hk : k = n
  · subst hk
    rw [h1] at k1
    cases k1
    rw [List.getElem?_set_self (List.getElem?_eq_some_iff.mp h2).1] at k2
    cases k2
    exact ⟨a1, a2, hc, .of nl nh'⟩
  · rw [List.getElem?_set_ne (Ne.symm hk)] at k2
    obtain ⟨b1, b2, b3, b4⟩ := g.c k b c2 k1 k2 k3
    have ne := g.two hk k1 h1
    exact ⟨b1, b2, b3.mono (Le.refl _) (List.prefix_refl _) (fun o e => (upd_ne ne).trans e), b4⟩
/-- a cell comes to rest -/
theorem GR.rest (g : GR Γ F R φ H st) {n : Nat} {a : Addr} {o : HO} {c : Cell} (h1 : φ[n]? = some a) (h2 : st[n]? = some c) (h3 : c ≠ .free) (ho : H a = some o) (nh : isHeld c = false := by rfl) : GR Γ (upd F a o) R φ H (st.set n .free) := by
  obtain ⟨a1, a2, a3, a4⟩ := g.c n a c h1 h2 h3
  have nl := a4.no nh
  refine ⟨fun b u e => ?_, g.r, g.s, fun b e => ?_, fun b e => ?_, g.m, by rw [List.length_set]; exact g.l, g.u, g.h, fun k b c2 k1 k2 k3 => ?_, g.x.addF (g.x.p a (List.mem_of_getElem? h1) o ho).t⟩
  · by_cases h : b = a
    · subst h; rw [upd_same] at e; rw [ho]; exact e
    · rw [upd_ne h] at e; exact g.f _ _ e
  · by_cases h : b = a
    · rw [h]; exact a2
    · rw [upd_ne h] at e; exact g.d _ e
  · have h : b ≠ a := fun h => e (by rw [h]; exact nl)
    obtain ⟨e1, e2, e3⟩ := g.e b e
    exact ⟨(upd_ne h).trans e1, e2, e3⟩
  · by_cases hk : k = n
    · subst hk
      rw [List.getElem?_set_self (List.getElem?_eq_some_iff.mp h2).1] at k2
      cases k2
      exact absurd rfl k3
    · rw [List.getElem?_set_ne (Ne.symm hk)] at k2
      obtain ⟨b1, b2, b3, b4⟩ := g.c k b c2 k1 k2 k3
      have ne := g.two hk k1 h1
      exact ⟨(upd_ne ne).trans b1, b2, b3.mono (Le.of (Ex.new a1)) (List.prefix_refl _) (fun o e => e), b4⟩
end
end Nm
set_option Elab.async false
set_option linter.all false
set_option maxRecDepth 100000
set_option maxHeartbeats 4000000
namespace Nm
open PySem PySem.Spec PyProof.Rows L2 Evl
def bnd {α β : Type} (r : Option (α × GS)) (k : α → GS → Option β) : Option β := match r with
  | some (a, s) => k a s
  | none => none
theorem bnd_of {α β : Type} {r : Option (α × GS)} {k : α → GS → Option β} {b : β} (h : bnd r k = some b) : ∃ a s, r = some (a, s) ∧ k a s = some b := by
  match r, h with
  | some (a, s), h => exact ⟨a, s, rfl, h⟩
/-- r ends well, and whatever stands for its result is wanted -/
def PG {α β : Type} (rel : Gm → Hp → List Addr → β → α → Prop) (Γ : Gm) (F : Hp) (R : Rr) (φ : List Addr) (r : Option (α × GS)) (Q : β → Hp → Prop) : Prop :=
  ∃ d st, r = some (d, st) ∧ ∀ F' φ' v H', Ex F F' → φ <+: φ' → GR Γ F' R φ' H' st → rel Γ F' φ' v d → Q v H'
def relE {α : Type} : Gm → Hp → List Addr → α → α → Prop := fun _ _ _ v d => v = d
abbrev PV := PG Rp
section
variable {α β : Type} {rel : Gm → Hp → List Addr → β → α → Prop} {Γ : Gm} {F F' H : Hp} {R : Rr} {φ φ' : List Addr} {st : GS}
theorem PG.up {r : Option (α × GS)} {Q : β → Hp → Prop} (e : Ex F F') (p : φ <+: φ') (h : PG rel Γ F R φ r Q) : PG rel Γ F' R φ' r Q := by
  obtain ⟨d, st, h1, h2⟩ := h
  exact ⟨d, st, h1, fun G ψ v H' x y g => h2 G ψ v H' (e.trans x) (p.trans y) g⟩
theorem PG.bnd {γ : Type} {r : Option (γ × GS)} {k : γ → GS → Option (α × GS)} {Q : β → Hp → Prop} (h : PG rel Γ F R φ (bnd r k) Q) : ∃ a s, r = some (a, s) ∧ PG rel Γ F R φ (k a s) Q := by
  obtain ⟨d, st, h1, h2⟩ := h
  obtain ⟨a, s, h3, h4⟩ := bnd_of h1
  exact ⟨a, s, h3, d, st, h4, h2⟩
theorem PG.now {d : α} {Q : β → Hp → Prop} {v : β} (h : PG rel Γ F R φ (some (d, st)) Q) (g : GR Γ F R φ H st) (r : rel Γ F φ v d) : Q v H := by
  obtain ⟨d', st', h1, h2⟩ := h
  cases h1
  exact h2 F φ v H (Ex.refl F) (List.prefix_refl φ) g r
end
/-- an operator by values -/
def SimR (Γ : Gm) (r : R2) (f : D → D → GS → Option (D × GS)) : Prop := ∀ F R φ H st x y dx dy, GR Γ F R φ H st → Rp Γ F φ x dx → Rp Γ F φ y dy → ∀ Q, PV Γ F R φ (f dx dy st) Q → r x y H Q
def SimU (Γ : Gm) (r : V → Hp → VK → Prop) (f : D → GS → Option (D × GS)) : Prop := ∀ F R φ H st x dx, GR Γ F R φ H st → Rp Γ F φ x dx → ∀ Q, PV Γ F R φ (f dx st) Q → r x H Q
def SimC (Γ : Gm) (r : List V → Hp → VK → Prop) (f : List D → GS → Option (D × GS)) : Prop := ∀ F R φ H st xs ds, GR Γ F R φ H st → RpAll Γ F φ xs ds → ∀ Q, PV Γ F R φ (f ds st) Q → r xs H Q
def iOf : D → Option Int
  | .v (.int i) => some i
  | _ => none
def sOf : D → Option Str
  | .v (.str z) => some z
  | _ => none
def bOf : D → Option Bool
  | .v (.bl b) => some b
  | _ => none
def qOf : D → Option (List D)
  | .lst ds => some ds
  | .lsk ds => some ds
  | _ => none
def uOf : D → Option (List D)
  | .tup ds => some ds
  | .tpk ds => some ds
  | _ => none
def kOf : D → Option Key
  | .v (.int i) => some (.inl i)
  | .v (.str z) => some (.inr z)
  | _ => none
theorem iOf_eq {d : D} {i : Int} (h : iOf d = some i) : d = .v (.int i) := by
  match d, h with
  | .v (.int _), h => cases h; rfl
theorem sOf_eq {d : D} {i : Str} (h : sOf d = some i) : d = .v (.str i) := by
  match d, h with
  | .v (.str _), h => cases h; rfl
theorem bOf_eq {d : D} {i : Bool} (h : bOf d = some i) : d = .v (.bl i) := by
  match d, h with
  | .v (.bl _), h => cases h; rfl
theorem kOf_eq {d : D} {k : Key} (h : kOf d = some k) : d = .v (kV k) := by
  match d, h with
  | .v (.int _), h => cases h; rfl
  | .v (.str _), h => cases h; rfl
section
variable {Γ : Gm} {F H : Hp} {R : Rr} {φ : List Addr} {st : GS}
theorem Rp.vi {x y : V} (h : Rp Γ F φ x (.v y)) : x = y := by cases h; rfl
theorem Rp.li {x : V} {ds : List D} (h : Rp Γ F φ x (.lst ds)) : ∃ a xs, x = .ref a ∧ F a = some (.lst xs) ∧ RpAll Γ F φ xs ds := by cases h with | lst h1 h2 => exact ⟨_, _, rfl, h1, h2⟩
theorem Rp.qi {x : V} {d : D} {ds : List D} (e : qOf d = some ds) (h : Rp Γ F φ x d) : ∃ a xs, x = .ref a ∧ SqL Γ.K F a xs ∧ RpAll Γ F φ xs ds := by
  cases h with
  | lst h1 h2 => cases e; exact ⟨_, _, rfl, sq_of h1, h2⟩
  | lsk h1 h2 => cases e; exact ⟨_, _, rfl, h1, h2⟩
  | _ => cases e
theorem Rp.ti {x : V} {ds : List D} (h : Rp Γ F φ x (.tup ds)) : ∃ a xs, x = .ref a ∧ F a = some (.tup xs) ∧ RpAll Γ F φ xs ds := by cases h with | tup h1 h2 => exact ⟨_, _, rfl, h1, h2⟩
theorem Rp.ui {x : V} {d : D} {ds : List D} (e : uOf d = some ds) (h : Rp Γ F φ x d) : ∃ a xs, x = .ref a ∧ SqT Γ.K F a xs ∧ RpAll Γ F φ xs ds := by
  cases h with
  | tup h1 h2 => cases e; exact ⟨_, _, rfl, st_of h1, h2⟩
  | tpk h1 h2 => cases e; exact ⟨_, _, rfl, h1, h2⟩
  | _ => cases e
theorem Rp.di {x : V} {ds : List (Key × D)} (h : Rp Γ F φ x (.dic ds)) : ∃ a ks, x = .ref a ∧ Rd F a (.dK ks) ∧ RpKv Γ F φ ks ds := by cases h with | dic h1 h2 => exact ⟨_, _, rfl, h1, h2⟩
theorem Rp.oi {x : V} {n : Nat} (h : Rp Γ F φ x (.obj n)) : ∃ a, x = .ref a ∧ φ[n]? = some a := by cases h with | obj h1 => exact ⟨_, rfl, h1⟩
theorem GR.sq (g : GR Γ F R φ H st) {a : Addr} {xs : List V} (h : SqL Γ.K F a xs) : SqL Γ.K H a xs := ex_l g.f h
theorem GR.st' (g : GR Γ F R φ H st) {a : Addr} {xs : List V} (h : SqT Γ.K F a xs) : SqT Γ.K H a xs := ex_t g.f h
theorem GR.rd (g : GR Γ F R φ H st) {a : Addr} {u : HO} (h : Rd F a u) : Rd H a u := ex_rd g.f h
/-- a new list, tuple -/
theorem PG.newL {ds : List D} {xs : List V} {Q : VK} (h : PV Γ F R φ (some (.lst ds, st)) Q) (g : GR Γ F R φ H st) (r : RpAll Γ F φ xs ds) {p : Addr} (n : H p = none) : Q (.ref p) (upd H p (.lst xs)) := by
  have e := Ex.new (o := .lst xs) (g.noF n)
  exact PG.now (h.up e (List.prefix_refl _)) (g.new _ n) (.lst upd_same (r.mono (Le.of e) (List.prefix_refl _)))
theorem PG.newT {ds : List D} {xs : List V} {Q : VK} (h : PV Γ F R φ (some (.tup ds, st)) Q) (g : GR Γ F R φ H st) (r : RpAll Γ F φ xs ds) {p : Addr} (n : H p = none) : Q (.ref p) (upd H p (.tup xs)) := by
  have e := Ex.new (o := .tup xs) (g.noF n)
  exact PG.now (h.up e (List.prefix_refl _)) (g.new _ n) (.tup upd_same (r.mono (Le.of e) (List.prefix_refl _)))
theorem PG.newD {ds : List (Key × D)} {xs : List (Key × V)} {Q : VK} (h : PV Γ F R φ (some (.dic ds, st)) Q) (g : GR Γ F R φ H st) (r : RpKv Γ F φ xs ds) {p : Addr} (n : H p = none) : Q (.ref p) (upd H p (.dK xs)) := by
  have e := Ex.new (o := .dK xs) (g.noF n)
  exact PG.now (h.up e (List.prefix_refl _)) (g.new _ n) (.dic (.inl upd_same) (r.mono (Le.of e) (List.prefix_refl _)))
end
theorem PG.ifp {α β : Type} {rel : Gm → Hp → List Addr → β → α → Prop} {Γ : Gm} {F : Hp} {R : Rr} {φ : List Addr} {c : Prop} [Decidable c] {r : Option (α × GS)} {Q : β → Hp → Prop} (h : PG rel Γ F R φ (if c then r else none) Q) : c ∧ PG rel Γ F R φ r Q := by
  by_cases hc : c
  · rw [if_pos hc] at h; exact ⟨hc, h⟩
  · rw [if_neg hc] at h; obtain ⟨_, _, h, _⟩ := h; cases h
def SimSl (Γ : Gm) (r : V → Option Int → Option Int → Hp → VK → Prop) (f : D → Option Int → Option Int → GS → Option (D × GS)) : Prop := ∀ F R φ H st x dx l h, GR Γ F R φ H st → Rp Γ F φ x dx → ∀ Q, PV Γ F R φ (f dx l h st) Q → r x l h H Q
end Nm
set_option Elab.async false
set_option linter.all false
set_option maxRecDepth 100000
set_option maxHeartbeats 4000000
namespace Nm
open PySem PySem.Spec PyProof.Rows L2
def leP (i j : Int) (b1 b2 : Bool) : Bool := if i = j then (if b1 = true then true else b2) else decide (i ≤ j)
def rLeP (K : Fg) : R2 := fun x y H Q => ∃ (a b : Addr) (i j : Int) (z w : Str), x = .ref a ∧ y = .ref b ∧ SqT K H a [.int i, .str z] ∧ SqT K H b [.int j, .str w] ∧ Q (.bl (leP i j (decide (z = w)) (!decide (w.cps.toList < z.cps.toList)))) H
theorem op_leP {X : Cx} (hu : X.A.units < cLine) : OpR X (compareOp .LtE) (rLeP X.K) := by
  intro pins s σ H x y v u Q I rx ry h
  obtain ⟨a, b, i, j, z, w, rfl, rfl, ha, hb, q⟩ := h
  cases rx
  cases ry
  obtain ⟨its, r1, p1, _⟩ := I.tuple ha
  obtain ⟨its2, r2, p2, _⟩ := I.tuple hb
  cases r1 with
  | cons ra rr =>
    cases rr with
    | cons rb rr =>
      cases rr
      cases r2 with
      | cons rc rr2 =>
        cases rr2 with
        | cons rd rr2 =>
          cases rr2
          obtain ⟨t1, rfl⟩ := ra
          obtain ⟨t2, rfl⟩ := rb
          obtain ⟨t3, rfl⟩ := rc
          obtain ⟨t4, rfl⟩ := rd
          have R := Ob.RcOp.tuples_le (A := X.A) (s := s) (e := fun n => if n = 0 then decide (i = j) else decide (z = w)) (r := fun n => if n = 0 then decide (i ≤ j) else !decide (w.cps.toList < z.cps.toList)) p1 p2 hu (fun n h1 h2 => ?_) (fun n h1 h2 _ => ?_)
          · exact R X.prog X.w X.xe (EP X pins σ Q) ⟨.bl _, H, I, rfl, by
              have e : Ob.lexAt (fun n => if n = 0 then decide (i = j) else decide (z = w)) (fun n => if n = 0 then decide (i ≤ j) else !decide (w.cps.toList < z.cps.toList)) (decide (([Value.int i t1, Value.str z t2] : List Value).toArray.size ≤ ([Value.int j t3, Value.str w t4] : List Value).toArray.size)) 0 (min ([Value.int i t1, Value.str z t2] : List Value).toArray.size ([Value.int j t3, Value.str w t4] : List Value).toArray.size) = leP i j (decide (z = w)) (!decide (w.cps.toList < z.cps.toList)) := by
                show (if decide (i = j) = true then (if decide (z = w) = true then true else !decide (w.cps.toList < z.cps.toList)) else decide (i ≤ j)) = _
                unfold leP
                by_cases h : i = j <;> simp [h]
              rw [e]
              exact q⟩
          · match n, h1 with
            | 0, _ =>
              have q1 := SeqAt.EqAt.int_int (A := X.A.in1) (s := s) i t1 j t3
              have e : (i == j) = decide (i = j) := by by_cases h : i = j <;> simp [h]
              rw [e] at q1
              exact q1
            | 1, _ =>
              have q1 := SeqAt.EqAt.str_str (A := X.A.in1) (s := s) z t2 w t4
              have e : (z == w) = decide (z = w) := by by_cases h : z = w <;> simp [h]
              rw [e] at q1
              exact q1
            | m + 2, h => exact absurd h (by show ¬ (m + 2 < 2); omega)
          · match n, h1 with
            | 0, _ => exact Ob.RcOp.le_int i j t1 t3
            | 1, _ => exact fun prog w' E Q' h => (PySem.P.le_str h : wpAny (model prog w') X.A.in1 (compareOp .LtE (.str z t2) (.str w t4)) Q' E s)
            | m + 2, h => exact absurd h (by show ¬ (m + 2 < 2); omega)
end Nm
set_option Elab.async false
set_option linter.all false
set_option maxRecDepth 100000
set_option maxHeartbeats 4000000
set_option Elab.async false
set_option linter.all false
set_option maxRecDepth 100000
set_option maxHeartbeats 4000000
namespace Nm
open PySem PySem.Spec PyProof.Rows L2 Evl
section
variable {P : Program} {w : World} {A : Around} {E : Value → Shared → Prop} {s : Shared} {Q : Value → Shared → Prop} {d : Addr} {z : Str} {t : Tok} {o : Obj} {es : Array DictEntry} {ep : Nat}
theorem dict_no (ty : s.TypeIs (.ref d) "dict") (h : Q .notImplemented s) : wpAny (model P w) A (call (.builtin "dict.__eq__") [.ref d, .str z t]) Q E s := by
  refine wpAny_call_entry F.slot_dict_eq ty F.entry_dict_eq ?_ (by rfl)
  unfold Builtin.«dict.__eq__»
  refine wpAny_bind (m := PySem.Builtin.Dict.dictSlotArgs "__eq__" { pos := [.ref d, .str z t] }) (wpAny_pure ?_)
  refine wpAny_bind (m := isInstance (.str z t) (.type "dict")) (wpAny_pure ?_)
  exact wpAny_bind (wpAny_rule (wpAny_pure ⟨_, rfl, h⟩))
theorem dict_noN (ty : s.TypeIs (.ref d) "dict") (h : Q .notImplemented s) : wpAny (model P w) A (call (.builtin "dict.__ne__") [.ref d, .str z t]) Q E s := by
  refine wpAny_call_entry F.slot_dict_ne ty F.entry_dict_ne ?_ (by rfl)
  unfold Builtin.«dict.__ne__»
  refine wpAny_bind (m := PySem.Builtin.Dict.dictSlotArgs "__ne__" { pos := [.ref d, .str z t] }) (wpAny_pure ?_)
  refine wpAny_bind (m := isInstance (.str z t) (.type "dict")) (wpAny_pure ?_)
  exact wpAny_bind (wpAny_rule (wpAny_pure ⟨_, rfl, h⟩))
theorem str_no (hd : s.heap.get? d = some o) (dd : o.data = .dict es ep) (h : Q .notImplemented s) : wpAny (model P w) A (call (.builtin "str.__eq__") [.str z t, .ref d]) Q E s := by
  refine wpAny_call_entry F.slot_str_eq (typeIs_str _ _ _) F.entry_str_eq ?_ (by rfl)
  unfold Builtin.«str.__eq__» Builtin.Str.strCompare
  refine wpAny_bind (m := Builtin.Str.strSlot "__eq__" 1 { pos := [.str z t, .ref d] }) (wpAny_pure ?_)
  refine wpAny_bind (m := asStr? (.ref d)) (wpAny_bind (wpAny_load hd ?_))
  rw [dd]
  exact wpAny_pure (wpAny_bind (wpAny_rule (wpAny_pure ⟨_, rfl, h⟩)))
theorem str_noN (hd : s.heap.get? d = some o) (dd : o.data = .dict es ep) (h : Q .notImplemented s) : wpAny (model P w) A (call (.builtin "str.__ne__") [.str z t, .ref d]) Q E s := by
  refine wpAny_call_entry F.slot_str_ne (typeIs_str _ _ _) F.entry_str_ne ?_ (by rfl)
  unfold Builtin.«str.__ne__» Builtin.Str.strCompare
  refine wpAny_bind (m := Builtin.Str.strSlot "__ne__" 1 { pos := [.str z t, .ref d] }) (wpAny_pure ?_)
  refine wpAny_bind (m := asStr? (.ref d)) (wpAny_bind (wpAny_load hd ?_))
  rw [dd]
  exact wpAny_pure (wpAny_bind (wpAny_rule (wpAny_pure ⟨_, rfl, h⟩)))
end
section
variable {X : Cx}
theorem dict_raw {pins : List (Addr × Obj)} {σ : L2.St} {H : Hp} {s : Shared} (I : Inv X pins σ H s) {a : Addr} {ks : List (Key × V)} (e : Rd H a (.dK ks)) : ∃ o es ep, s.heap.get? a = some o ∧ o.data = .dict es ep ∧ s.TypeIs (.ref a) "dict" := by
  obtain ⟨_, _, va, _, o, es, ep, h1, h2, h3, _⟩ := dk_rd I.hok e
  exact ⟨o, es, ep, h1, h3, ⟨o, h1, h2.1⟩⟩
/-- a dict and a text, on either side -/
def rDS (c : Bool) : R2 := fun x y H Q => ((∃ a ks z, x = .ref a ∧ y = .str z ∧ Rd H a (.dK ks)) ∨ ∃ a ks z, x = .str z ∧ y = .ref a ∧ Rd H a (.dK ks)) ∧ Q (.bl c) H
theorem op_eqDS (hu : X.A.units < cLine) : OpR X (compareOp .Eq) (rDS false) := by
  rintro pins s σ H x y v u Q I rx ry ⟨h, q⟩
  rcases h with ⟨a, ks, z, rfl, rfl, e⟩ | ⟨a, ks, z, rfl, rfl, e⟩
  · obtain ⟨o, es, ep, h1, h2, h3⟩ := dict_raw I e
    obtain rfl : v = .ref a := rx
    obtain ⟨t, rfl⟩ := ry
    exact SeqAt.rc_eq_decline_or (Ta := "dict") (Tb := "str") h3 (typeIs_str _ _ _) rfl rfl F.slot_dict_eq F.slot_str_eq_refl (fun _ h => dict_no h3 h) (fun _ h => str_no h1 h2 h) (fun _ h => wpAny_pure h) (.inr hu) ⟨.bl false, H, I, rfl, q⟩
  · obtain ⟨o, es, ep, h1, h2, h3⟩ := dict_raw I e
    obtain rfl : u = .ref a := ry
    obtain ⟨t, rfl⟩ := rx
    exact SeqAt.rc_eq_decline_or (Ta := "str") (Tb := "dict") (typeIs_str _ _ _) h3 rfl rfl F.slot_str_eq F.slot_dict_eq_refl (fun _ h => str_no h1 h2 h) (fun _ h => dict_no h3 h) (fun _ h => wpAny_pure h) (.inr hu) ⟨.bl false, H, I, rfl, q⟩
theorem op_neDS (hu : X.A.units < cLine) : OpR X (compareOp .NotEq) (rDS true) := by
  rintro pins s σ H x y v u Q I rx ry ⟨h, q⟩
  rcases h with ⟨a, ks, z, rfl, rfl, e⟩ | ⟨a, ks, z, rfl, rfl, e⟩
  · obtain ⟨o, es, ep, h1, h2, h3⟩ := dict_raw I e
    obtain rfl : v = .ref a := rx
    obtain ⟨t, rfl⟩ := ry
    exact SeqAt.rc_ne_decline_or (k := false) (Ta := "dict") (Tb := "str") h3 (typeIs_str _ _ _) rfl rfl F.slot_dict_ne F.slot_str_ne_refl (fun _ h => dict_noN h3 h) (fun _ h => str_noN h1 h2 h) (fun _ h => wpAny_pure h) (.inr hu) ⟨.bl true, H, I, rfl, q⟩
  · obtain ⟨o, es, ep, h1, h2, h3⟩ := dict_raw I e
    obtain rfl : u = .ref a := ry
    obtain ⟨t, rfl⟩ := rx
    exact SeqAt.rc_ne_decline_or (k := false) (Ta := "str") (Tb := "dict") (typeIs_str _ _ _) h3 rfl rfl F.slot_str_ne F.slot_dict_ne_refl (fun _ h => str_noN h1 h2 h) (fun _ h => dict_noN h3 h) (fun _ h => wpAny_pure h) (.inr hu) ⟨.bl true, H, I, rfl, q⟩
end
section
variable {X : Cx}
/-- two lists of unlike lengths -/
def rLL (K : Fg) (c : Bool) : R2 := fun x y H Q => (∃ a b xs ys, x = .ref a ∧ y = .ref b ∧ SqL K H a xs ∧ SqL K H b ys ∧ xs.length ≠ ys.length) ∧ Q (.bl c) H
theorem op_eqLL (hu : X.A.units < cLine) : OpR X (compareOp .Eq) (rLL X.K false) := by
  rintro pins s σ H x y v u Q I rx ry ⟨⟨a, b, xs, ys, rfl, rfl, ha, hb, hl⟩, q⟩
  obtain rfl : v = .ref a := rx
  obtain rfl : u = .ref b := ry
  obtain ⟨us, r1, p1, _⟩ := I.list ha
  obtain ⟨ws, r2, p2, _⟩ := I.list hb
  have hsz : (us.toArray.size != ws.toArray.size) = true := by
    rw [List.size_toArray, List.size_toArray, ← r1.length, ← r2.length]
    simpa using hl
  exact SeqAt.RcAt.lists_lengths p1.isList p2.isList hsz hu _ _ _ _ ⟨.bl false, H, I, rfl, q⟩
theorem op_neLL (hu : X.A.units < cLine) : OpR X (compareOp .NotEq) (rLL X.K true) := by
  rintro pins s σ H x y v u Q I rx ry ⟨⟨a, b, xs, ys, rfl, rfl, ha, hb, hl⟩, q⟩
  obtain rfl : v = .ref a := rx
  obtain rfl : u = .ref b := ry
  obtain ⟨us, r1, p1, _⟩ := I.list ha
  obtain ⟨ws, r2, p2, _⟩ := I.list hb
  have hsz : (us.toArray.size != ws.toArray.size) = true := by
    rw [List.size_toArray, List.size_toArray, ← r1.length, ← r2.length]
    simpa using hl
  exact SeqAt.RcNeAt.lists_lengths p1.isList p2.isList hsz hu _ _ _ _ ⟨.bl true, H, I, rfl, q⟩
end
theorem strs_mem : ∀ {is : List Value} {zs : List Str}, StrsAre is zs → ∀ {y : Value}, y ∈ is → ∃ z t, y = Value.str z t
  | _, _, .nil, y, h => nomatch h
  | _, _, .cons z t h, y, hy => by
    rcases List.mem_cons.mp hy with rfl | hy
    · exact ⟨z, t, rfl⟩
    · exact strs_mem h hy
theorem eqAt_SD {A : Around} {s : Shared} {d : Addr} {z : Str} {t : Tok} {o : Obj} {es : Array DictEntry} {ep : Nat} (hd : s.heap.get? d = some o) (dd : o.data = .dict es ep) (ty : s.TypeIs (.ref d) "dict") (hu : A.units < cLine) : SeqAt.EqAt A s (.str z t) (.ref d) false := fun P w E Q h => by
  unfold eqBool
  refine wpAny_holding ?_
  rw [if_neg (show ¬ ((Value.str z t == Value.ref d) = true) from by intro z; cases z)]
  show wpAny _ _ (richCompare CmpOp.Eq (.str z t) (.ref d) >>= fun v => truthOfDropped v) _ _ _
  refine wpAny_bind (SeqAt.rc_eq_decline_or (k := false) (Ta := "str") (Tb := "dict") (typeIs_str _ _ _) ty rfl rfl F.slot_str_eq F.slot_dict_eq_refl (fun _ h => str_no hd dd h) (fun _ h => dict_no ty h) (fun _ h => wpAny_pure h) (.inr hu) ?_)
  exact wpAny_pure h
section
variable {X : Cx}
def rInDS (neg : Bool) (K : Fg) : R2 := fun x y H Q => (∃ (a : Addr) (ks : List (Key × V)) (b : Addr) (zs : List Str), x = .ref a ∧ y = .ref b ∧ Rd H a (.dK ks) ∧ SqL K H b (zs.map V.str)) ∧ Q (.bl neg) H
theorem op_inDS (hu : X.A.units + 1 < cLine) : OpR X (compareOp .In) (rInDS false X.K) := by
  rintro pins s σ H x y v u Q I rx ry ⟨⟨a, ks, b, zs, rfl, rfl, e, hq⟩, q⟩
  obtain ⟨o, es, ep, h1, h2, h3⟩ := dict_raw I e
  obtain rfl : v = .ref a := rx
  obtain rfl : u = .ref b := ry
  obtain ⟨is, rv, pl, _⟩ := I.list hq
  have sa : StrsAre is zs := strsAre_of rv
  have al : ∀ y ∈ is.toArray, SeqAt.EqAt X.A.in1 s y (.ref a) false := fun y hy => by
    obtain ⟨z, t, rfl⟩ := strs_mem sa (by simpa using hy)
    exact eqAt_SD h1 h2 h3 (by first | exact hu | (show X.A.units + 1 < cLine; omega) | (show X.A.units < cLine; omega))
  refine SeqAt.in_listAt (fun _ => false) pl.isList al ⟨.bl false, H, I, ?_, q⟩
  show L2.RelV _ (Value.bool _)
  have : is.toArray.any (fun _ => false) = false := by simp
  rw [this]
  rfl
theorem op_notInDS (hu : X.A.units + 1 < cLine) : OpR X (compareOp .NotIn) (rInDS true X.K) := by
  rintro pins s σ H x y v u Q I rx ry ⟨⟨a, ks, b, zs, rfl, rfl, e, hq⟩, q⟩
  obtain ⟨o, es, ep, h1, h2, h3⟩ := dict_raw I e
  obtain rfl : v = .ref a := rx
  obtain rfl : u = .ref b := ry
  obtain ⟨is, rv, pl, _⟩ := I.list hq
  have sa : StrsAre is zs := strsAre_of rv
  have al : ∀ y ∈ is.toArray, SeqAt.EqAt X.A.in1 s y (.ref a) false := fun y hy => by
    obtain ⟨z, t, rfl⟩ := strs_mem sa (by simpa using hy)
    exact eqAt_SD h1 h2 h3 (by first | exact hu | (show X.A.units + 1 < cLine; omega) | (show X.A.units < cLine; omega))
  refine SeqAt.notIn_listAt (fun _ => false) pl.isList al ⟨.bl true, H, I, ?_, q⟩
  show L2.RelV _ (Value.bool _)
  have : is.toArray.any (fun _ => false) = false := by simp
  rw [this]
  rfl
end
end Nm
set_option Elab.async false
set_option linter.all false
set_option maxRecDepth 100000
set_option maxHeartbeats 4000000
namespace Nm
open PySem PySem.Spec PyProof.Rows L2 Evl
section
variable {X : Cx} {K : Fg}
def rDIx : R2 := fun x y H Q => ∃ a v, x = .ref a ∧ DGet H a y (some v) ∧ Q v H
theorem ix_dict (hu : X.A.units + 1 < cLine) : IxR X rDIx := by
  rintro value slice pins s σ H x y v u Q I rx ry ⟨a, w, rfl, g, q⟩ hs
  cases rx
  have hT := dict_typeIs I g
  unfold subscriptTail
  refine wpAny_bind ?_
  rw [getitemInPython_of_ne hT.not_modules]
  refine wpAny_bind (wpAny_specialOf hT PySem.F.slot_dict_getitem.lookup ?_)
  have h2 : wpAny (model X.prog X.w) X.A (getItem (.ref a) u) (EP X pins σ Q) X.xe s := d_getItem hu I g ry fun w' s' I' r' => ⟨w, H, I', r', q⟩
  have fin : wpAny (model X.prog X.w) X.A (subscripted slice false (.ref a) u) (fun r s₃ => wpAny (model X.prog X.w) X.A (letTemporaryGo value (.ref a) r >>= fun _ => pure r) (EP X pins σ Q) X.xe s₃) X.xe s := by
    rw [hs]
    exact wpAny_operating (wpAny_mono h2 (fun r s₃ h₃ => wpAny_bind (wpAny_letTemporaryGo (wpAny_pure h₃))) fun _ _ x => x)
  first
    | exact wpAny_pure (wpAny_bind fin)
    | exact wpAny_bind (wpAny_pure (wpAny_bind fin))
    | exact wpAny_bind fin
def rIxA (K : Fg) : R2 := fun x y H Q => rIxL K x y H Q ∨ rIxT K x y H Q ∨ rIxS x y H Q ∨ rDIx x y H Q
theorem ixA (h : X.K = K) (hu : X.A.units + 1 < cLine) : IxR X (rIxA K) := by
  subst h
  exact ix_list.or (ix_tup.or (ix_str.or (ix_dict hu)))
def rAddA (K : Fg) : R2 := fun x y H Q => rI0 (fun i j => .int (i + j)) x y H Q ∨ (∃ i j, x = .str i ∧ y = .str j ∧ i.length + j.length ≤ sizeLine ∧ Q (.str (i ++ j)) H) ∨ rCat x y H Q ∨ rCatA K x y H Q
theorem opAdd (h : X.K = K) : OpR X (binaryOp .Add) (rAddA K) := by
  subst h
  exact op_add.or (op_add_str.or (op_cat.or op_catA))
def rMulA : R2 := fun x y H Q => rI CMul (fun i j => .int (i * j)) x y H Q ∨ rRep x y H Q ∨ rMulT x y H Q
theorem opMul : OpR X (binaryOp .Mult) rMulA := op_mul.or (op_rep.or op_mulT)
def rLtA : R2 := fun x y H Q => rI0 (fun i j => .bl (decide (i < j))) x y H Q ∨ ∃ i j, x = .str i ∧ y = .str j ∧ Q (.bl (decide (i.cps.toList < j.cps.toList))) H
theorem opLt : OpR X (compareOp .Lt) rLtA := op_lt.or op_lt_str
def rGtA : R2 := fun x y H Q => rI0 (fun i j => .bl (decide (j < i))) x y H Q ∨ ∃ i j, x = .str i ∧ y = .str j ∧ Q (.bl (decide (j.cps.toList < i.cps.toList))) H
theorem opGt : OpR X (compareOp .Gt) rGtA := op_gt.or op_gt_str
def rLeA (K : Fg) : R2 := fun x y H Q => rI0 (fun i j => .bl (decide (i ≤ j))) x y H Q ∨ (∃ i j, x = .str i ∧ y = .str j ∧ Q (.bl (!decide (j.cps.toList < i.cps.toList))) H) ∨ rLeP K x y H Q
theorem opLe (h : X.K = K) (hu : X.A.units < cLine) : OpR X (compareOp .LtE) (rLeA K) := by
  subst h
  exact op_le.or (op_le_str.or (op_leP hu))
def rGeA : R2 := fun x y H Q => rI0 (fun i j => .bl (decide (j ≤ i))) x y H Q ∨ ∃ i j, x = .str i ∧ y = .str j ∧ Q (.bl (!decide (i.cps.toList < j.cps.toList))) H
theorem opGe : OpR X (compareOp .GtE) rGeA := op_ge.or op_ge_str
end
def rEqDR : R2 := fun x y H Q => ∃ a b ks ls, x = .ref a ∧ y = .ref b ∧ Rd H a (.dK ks) ∧ Rd H b (.dK ls) ∧ (∀ p ∈ ks, ∀ v, valV ls p.1 = some v → flatP p.2 v = true) ∧ Q (.bl (decide (ks.length = ls.length) && kvAll ls ks)) H
def rNeDR : R2 := fun x y H Q => ∃ a b ks ls, x = .ref a ∧ y = .ref b ∧ Rd H a (.dK ks) ∧ Rd H b (.dK ls) ∧ (∀ p ∈ ks, ∀ v, valV ls p.1 = some v → flatP p.2 v = true) ∧ Q (.bl (!(decide (ks.length = ls.length) && kvAll ls ks))) H
section
variable {X : Cx}
theorem op_eqDR (hu : X.A.units < cLine) : OpR X (compareOp .Eq) rEqDR := by
  intro pins s σ H x y v u Q I rx ry h
  obtain ⟨a, b, ks, ls, rfl, rfl, ea, eb, fl, q⟩ := h
  cases rx
  cases ry
  obtain ⟨_, ya, va, ra, da⟩ := dk_rd I.hok ea
  obtain ⟨_, yb, vb, rb, db⟩ := dk_rd I.hok eb
  refine PySem.W.keq_eq (knd := mixKind X.prog X.w) (r := kvAll ls ks) ya yb da db hu (fun _ => hits_gen rb ra fl) ⟨.bl _, H, I, rfl, ?_⟩
  have e : (va.length == vb.length) = decide (ks.length = ls.length) := by rw [← ra.length, ← rb.length]; rfl
  rw [e]
  exact q
theorem op_neDR (hu : X.A.units < cLine) : OpR X (compareOp .NotEq) rNeDR := by
  intro pins s σ H x y v u Q I rx ry h
  obtain ⟨a, b, ks, ls, rfl, rfl, ea, eb, fl, q⟩ := h
  cases rx
  cases ry
  obtain ⟨_, ya, va, ra, da⟩ := dk_rd I.hok ea
  obtain ⟨_, yb, vb, rb, db⟩ := dk_rd I.hok eb
  refine PySem.W.keq_ne (knd := mixKind X.prog X.w) (r := kvAll ls ks) ya yb da db hu (fun _ => hits_gen rb ra fl) ⟨.bl _, H, I, rfl, ?_⟩
  have e : (va.length == vb.length) = decide (ks.length = ls.length) := by rw [← ra.length, ← rb.length]; rfl
  rw [e]
  exact q
end
section
variable {X : Cx} {K : Fg}
def rEqA (K : Fg) : R2 := fun x y H Q => rEq x y H Q ∨ rEqD K x y H Q ∨ rEqDR x y H Q ∨ rDS false x y H Q ∨ (rLL K false) x y H Q
theorem opEq (h : X.K = K) (hu : X.A.units + 64 < cLine) : OpR X (compareOp .Eq) (rEqA K) := by
  subst h
  exact op_eq.or ((op_eqD hu).or ((op_eqDR (by omega)).or ((op_eqDS (by omega)).or (op_eqLL (by omega)))))
def rNeA (K : Fg) : R2 := fun x y H Q => rNe x y H Q ∨ rNeD K x y H Q ∨ rNeDR x y H Q ∨ rDS true x y H Q ∨ (rLL K true) x y H Q
theorem opNe (h : X.K = K) (hu : X.A.units + 64 < cLine) : OpR X (compareOp .NotEq) (rNeA K) := by
  subst h
  exact op_ne.or ((op_neD hu).or ((op_neDR (by omega)).or ((op_neDS (by omega)).or (op_neLL (by omega)))))
def rDIn (neg : Bool) : R2 := fun y x H Q => ∃ a o, x = .ref a ∧ DGet H a y o ∧ Q (.bl (if neg then !o.isSome else o.isSome)) H
theorem op_din (hu : X.A.units + 1 < cLine) : OpR X (compareOp .In) (rDIn false) := by
  rintro pins s σ H y x u v Q I ry rx ⟨a, o, rfl, g, q⟩
  cases rx
  exact d_in hu I g ry fun s3 I3 => ⟨.bl o.isSome, H, I3, rfl, q⟩
theorem op_dnin (hu : X.A.units + 1 < cLine) : OpR X (compareOp .NotIn) (rDIn true) := by
  rintro pins s σ H y x u v Q I ry rx ⟨a, o, rfl, g, q⟩
  cases rx
  exact d_notIn hu I g ry fun s3 I3 => ⟨.bl (!o.isSome), H, I3, rfl, q⟩
def rInA (K : Fg) : R2 := fun x y H Q => (∃ (c : Nat) (z : Str), x = .str ⟨#[c]⟩ ∧ y = .str z ∧ Q (.bl (decide (c ∈ z.cps.toList))) H) ∨ rIn K false x y H Q ∨ rDIn false x y H Q ∨ rInD K x y H Q ∨ rInDS false K x y H Q
def rNInA (K : Fg) : R2 := fun x y H Q => (∃ (c : Nat) (z : Str), x = .str ⟨#[c]⟩ ∧ y = .str z ∧ Q (.bl (!decide (c ∈ z.cps.toList))) H) ∨ rIn K true x y H Q ∨ rDIn true x y H Q ∨ rNotInD K x y H Q ∨ rInDS true K x y H Q
theorem opIn (h : X.K = K) (hu : X.A.units + 65 < cLine) : OpR X (compareOp .In) (rInA K) := by
  subst h
  exact op_in_sign.or (op_in_seq.or ((op_din (by omega)).or ((op_inD hu).or (op_inDS (by omega)))))
theorem opNIn (h : X.K = K) (hu : X.A.units + 65 < cLine) : OpR X (compareOp .NotIn) (rNInA K) := by
  subst h
  exact op_notIn_sign.or (op_notIn_seq.or ((op_dnin (by omega)).or ((op_notInD hu).or (op_notInDS (by omega)))))
theorem slA (h : X.K = K) : SlR X (fun x lo hi H Q => rSlS x lo hi H Q ∨ rSlL K x lo hi H Q ∨ rSlA K x lo hi H Q) := by
  subst h
  exact sl_str.or (sl_list.or sl_tupA)
def iAny (K : Fg) (te : TE) : TI := fun σ H R => te σ H fun x H1 => (∃ a, x = .ref a ∧ (∃ xs, SqL K H1 a xs) ∧ R (Itl K a) H1) ∨ (∃ a, x = .ref a ∧ (∃ xs, SqT K H1 a xs) ∧ R (Itt K a) H1) ∨ (∃ z, x = .str z ∧ R (Its z) H1) ∨
  ∃ d o, x = .ref d ∧ ((∃ kvs, H1 d = some (.frz o (.dK kvs)) ∧ R (Itk d o kvs) H1) ∨ ∃ kvs, H1 d = some (.frz o (.dT kvs)) ∧ R (Itkt d o kvs) H1)
theorem pi_any {tg l : Expr} {tl : TE} (h : X.K = K) (hl : PE X l tl) : PI X tg l (iAny K tl) := by
  subst h
  refine ⟨fun pins s σ H R I h => ?_⟩
  refine thn (hl.run pins s σ H _ I h) fun v s1 ⟨x, H1, I1, r1, q1⟩ => ?_
  rcases q1 with ⟨a, rfl, ⟨xs, hq⟩, q⟩ | ⟨a, rfl, ⟨xs, hq⟩, q⟩ | ⟨z, rfl, q⟩ | ⟨d, o, rfl, q⟩
  · cases r1
    obtain ⟨its, rv, p, hz⟩ := I1.list hq
    refine wpAny_pyIter_list p.isList ?_
    refine ⟨s1.heap.objs.size, [s1.heap.objs.size], _, _, H1, rfl, I1.kept (t' := s1.toks) fun b o e => Heap.get?_push_of_some _ e, turn_list a _, ⟨_, Heap.get?_push_size _ rfl, rfl, rfl⟩, fun b hb => ?_, q⟩
    have e : b = s1.heap.objs.size := by simpa using hb
    subst e
    exact I1.fpOk (Nat.le_refl _) (I1.hok.fresh (Nat.le_refl _))
  · cases r1
    obtain ⟨its, rv, p, hz⟩ := I1.tuple hq
    refine wpAny_pyIter_tuple (show s1.heap.IsTuple a its.toArray from p) ?_
    refine ⟨s1.heap.objs.size, [s1.heap.objs.size], _, _, H1, rfl, I1.kept (t' := s1.toks) fun b o e => Heap.get?_push_of_some _ e, turn_tuple a _, ⟨_, Heap.get?_push_size _ rfl, rfl, rfl⟩, fun b hb => ?_, q⟩
    have e : b = s1.heap.objs.size := by simpa using hb
    subst e
    exact I1.fpOk (Nat.le_refl _) (I1.hok.fresh (Nat.le_refl _))
  · obtain ⟨t, rfl⟩ := r1
    cases ha : z.cps.all (· < 128)
    · exact wpAny_pyIter_wide ha (pi_one (tk := s1.toks) I1 _ (turn_str _ z t "str_iterator" (.inr rfl)) ⟨_, Heap.get?_push_size _ rfl, rfl, rfl⟩ q)
    · exact wpAny_pyIter_ascii ha (pi_one (tk := s1.toks) I1 _ (turn_str _ z t "str_ascii_iterator" (.inl rfl)) ⟨_, Heap.get?_push_size _ rfl, rfl, rfl⟩ q)
  · obtain rfl : v = Value.ref d := r1
    rcases q with ⟨kvs, hd, q⟩ | ⟨kvs, hd, q⟩
    · obtain ⟨hs, hgd, hx, es, ep, vs, hdt, hsz, kv, hm⟩ := I1.frzK hd
      refine iter_keys hs hgd hx hdt (pi_one (tk := s1.toks) I1 _ (turn_keys _ hdt) ⟨_, Heap.get?_push_size _ rfl, rfl, ?_⟩ q)
      rw [hsz] <;> rfl
    · obtain ⟨hs, hgd, hx, es, ep, hdt, hsz, ent⟩ := I1.frzT hd
      refine iter_keys hs hgd hx hdt (pi_one (tk := s1.toks) I1 _ (turn_keysT _ hdt) ⟨_, Heap.get?_push_size _ rfl, rfl, ?_⟩ q)
      rw [hsz] <;> rfl
def tLockO (t : TS) : TS := fun D σ H => t D σ H ∨ tLock t D σ H
theorem ps_lockO {st : Stmt} {t : TS} (h : PS X st t) : PS X st (tLockO t) := ⟨fun pins s σ H D I q => q.elim (fun q => h.run pins s σ H D I q) fun q => (ps_lock h).run pins s σ H D I q⟩
def tLockEO (t : TE) : TE := fun σ H Q => t σ H Q ∨ tLockE t σ H Q
theorem pe_lockO {e : Expr} {t : TE} (h : PE X e t) : PE X e (tLockEO t) := ⟨fun pins s σ H Q I q => q.elim (fun q => h.run pins s σ H Q I q) fun q => (pe_lock h).run pins s σ H Q I q⟩
def rLenA (K : Fg) : List V → Hp → VK → Prop := fun xs H Q => (∃ z : Str, xs = [.str z] ∧ z.length ≤ sizeLine ∧ Q (.int z.length) H) ∨ (∃ p ys, xs = [.ref p] ∧ (SqL K H p ys ∨ SqT K H p ys) ∧ Q (.int ys.length) H) ∨ (∃ a, ∃ kvs : List (Key × V), xs = [V.ref a] ∧ Rd H a (.dK kvs) ∧ Q (.int kvs.length) H) ∨ rLenT xs H Q
theorem call_lenR : CallR X (.builtin "len") (fun xs H Q => ∃ a, ∃ kvs : List (Key × V), xs = [V.ref a] ∧ Rd H a (.dK kvs) ∧ Q (.int kvs.length) H) := by
  intro pins s σ H xs us Q I r h
  obtain ⟨a, kvs, rfl, ha, q⟩ := h
  obtain ⟨u, rfl, ru⟩ := vals1 r
  cases ru
  exact d_len I ha fun t s' I' => ⟨.int kvs.length, H, I', ⟨t, rfl⟩, q⟩
theorem callLen (h : X.K = K) : CallR X (.builtin "len") (rLenA K) := by
  subst h
  exact call_len_str.or (call_len_seq.or (call_lenR.or call_len_dT))
def rListA (K : Fg) : List V → Hp → VK → Prop := fun xs H Q => (∃ p ys, xs = [.ref p] ∧ (SqL K H p ys ∨ SqT K H p ys) ∧ ∀ l, H l = none → Q (.ref l) (upd H l (.lst ys))) ∨ rListT xs H Q ∨ ∃ (a : Addr) (kvs : List (Key × V)), xs = [.ref a] ∧ Rd H a (.dK kvs) ∧ ∀ p, H p = none → Q (.ref p) (upd H p (.lst (kvs.map fun kv => kV kv.1)))
theorem callList (h : X.K = K) (hc : X.calm = true) : CallR X (.type "list") (rListA K) := by
  subst h
  exact call_list_of.or ((call_listT hc).or (call_listD hc))
def rSortedA (K : Fg) : List V → Hp → VK → Prop := fun xs H Q => rSortA K xs H Q ∨ rSortT xs H Q ∨ rSortD xs H Q
theorem callSorted (h : X.K = K) (hc : X.calm = true) : CallR X (.builtin "sorted") (rSortedA K) := by
  subst h
  exact cr_sortA.or ((call_sortT hc).or (call_sortedD hc))
theorem cAll (h : X.K = K) (hc : X.calm = true) : CallR X (.builtin "all") (rAll K) := by subst h; exact cr_all hc
theorem cAny (h : X.K = K) (hc : X.calm = true) : CallR X (.builtin "any") (rAny K) := by subst h; exact cr_any hc
theorem cIsi (h : X.K = K) : CallR X (.builtin "isinstance") (rIsi K) := by subst h; exact call_isi
theorem mJoin (h : X.K = K) : MtR X "str.join" (rJoin K) := by subst h; exact mt_join
end
end Nm
set_option Elab.async false
set_option linter.all false
set_option maxRecDepth 100000
set_option maxHeartbeats 4000000
namespace Nm
open PySem PySem.Spec PyProof.Rows L2 Evl
theorem PG.no {α β : Type} {rel : Gm → Hp → List Addr → β → α → Prop} {Γ : Gm} {F : Hp} {R : Rr} {φ : List Addr} {Q : β → Hp → Prop} (h : PG rel Γ F R φ none Q) : False := by obtain ⟨_, _, h, _⟩ := h; cases h
/-- the items of a list that stands or changes -/
def lvX (st : GS) : D → Option (List D)
  | .lst ds => some ds
  | .obj n => match st[n]? with
    | some (.lst ds) => some ds
    | some (.hdl ds) => some ds
    | _ => none
  | _ => none
def lvQ (st : GS) (d : D) : Option (List D) := match d with
  | .lsk ds => some ds
  | d => lvX st d
/-- of a list or tuple -/
def sv (st : GS) (d : D) : Option (List D) := match d with
  | .tup ds => some ds
  | .tpk ds => some ds
  | d => lvQ st d
def dvw (st : GS) : D → Option (List (Key × D))
  | .dic ds => some ds
  | .obj n => match st[n]? with
    | some (.dic ds) => some ds
    | some (.hdd ds) => some ds
    | _ => none
  | _ => none
section
variable {Γ : Gm} {F H : Hp} {R : Rr} {φ : List Addr} {st : GS}
theorem GR.cellL (g : GR Γ F R φ H st) {n : Nat} {x : V} {ds : List D} (r : Rp Γ F φ x (.obj n)) (e : st[n]? = some (.lst ds)) : ∃ a xs, x = .ref a ∧ φ[n]? = some a ∧ H a = some (.lst xs) ∧ RpAll Γ F φ xs ds := by
  obtain ⟨a, rfl, ha⟩ := r.oi
  obtain ⟨_, _, ⟨xs, h1, h2⟩, _⟩ := g.c n a _ ha e (by intro z; cases z)
  exact ⟨a, xs, rfl, ha, h1, h2⟩
theorem GR.cellD (g : GR Γ F R φ H st) {n : Nat} {x : V} {ds : List (Key × D)} (r : Rp Γ F φ x (.obj n)) (e : st[n]? = some (.dic ds)) : ∃ a xs, x = .ref a ∧ φ[n]? = some a ∧ H a = some (.dK xs) ∧ RpKv Γ F φ xs ds := by
  obtain ⟨a, rfl, ha⟩ := r.oi
  obtain ⟨_, _, ⟨xs, h1, h2⟩, _⟩ := g.c n a _ ha e (by intro z; cases z)
  exact ⟨a, xs, rfl, ha, h1, h2⟩
theorem GR.cellH (g : GR Γ F R φ H st) {n : Nat} {x : V} {ds : List D} (r : Rp Γ F φ x (.obj n)) (e : st[n]? = some (.hdl ds)) : ∃ a xs, x = .ref a ∧ H a = some (.lst xs) ∧ RpAll Γ F φ xs ds := by
  obtain ⟨a, rfl, ha⟩ := r.oi
  obtain ⟨_, _, ⟨xs, h1, h2⟩, _⟩ := g.c n a _ ha e (by intro z; cases z)
  exact ⟨a, xs, rfl, h1, h2⟩
theorem GR.cellK (g : GR Γ F R φ H st) {n : Nat} {x : V} {ds : List (Key × D)} (r : Rp Γ F φ x (.obj n)) (e : st[n]? = some (.hdd ds)) : ∃ a od xs, x = .ref a ∧ H a = some (.frz od (.dK xs)) ∧ RpKv Γ F φ xs ds := by
  obtain ⟨a, rfl, ha⟩ := r.oi
  obtain ⟨_, _, ⟨od, xs, h1, h2⟩, _⟩ := g.c n a _ ha e (by intro z; cases z)
  exact ⟨a, od, xs, rfl, h1, h2⟩
theorem GR.lvX (g : GR Γ F R φ H st) {x : V} {d : D} {ds : List D} (e : lvX st d = some ds) (r : Rp Γ F φ x d) : ∃ a xs, x = .ref a ∧ H a = some (.lst xs) ∧ RpAll Γ F φ xs ds := by
  match d, e with
  | .lst _, e =>
    cases e
    obtain ⟨a, xs, rfl, h1, h2⟩ := r.li
    exact ⟨a, xs, rfl, g.f _ _ h1, h2⟩
  | .obj n, e =>
    simp only [Nm.lvX] at e
    split at e
    · rename_i ds' hs
      cases e
      obtain ⟨a, xs, rfl, _, h1, h2⟩ := g.cellL r hs
      exact ⟨a, xs, rfl, h1, h2⟩
    · rename_i ds' hs
      cases e
      exact g.cellH r hs
    · cases e
theorem GR.lvQ (g : GR Γ F R φ H st) {x : V} {d : D} {ds : List D} (e : lvQ st d = some ds) (r : Rp Γ F φ x d) : ∃ a xs, x = .ref a ∧ SqL Γ.K H a xs ∧ RpAll Γ F φ xs ds := by
  unfold Nm.lvQ at e
  split at e
  · cases e
    obtain ⟨a, xs, rfl, h1, h2⟩ := r.qi (d := .lsk _) rfl
    exact ⟨a, xs, rfl, g.sq h1, h2⟩
  · obtain ⟨a, xs, rfl, h1, h2⟩ := g.lvX e r
    exact ⟨a, xs, rfl, sq_of h1, h2⟩
theorem GR.sv (g : GR Γ F R φ H st) {x : V} {d : D} {ds : List D} (e : sv st d = some ds) (r : Rp Γ F φ x d) : ∃ a xs, x = .ref a ∧ (SqL Γ.K H a xs ∨ SqT Γ.K H a xs) ∧ RpAll Γ F φ xs ds := by
  unfold Nm.sv at e
  split at e
  · cases e
    obtain ⟨a, xs, rfl, h1, h2⟩ := r.ui (d := .tup _) rfl
    exact ⟨a, xs, rfl, .inr (g.st' h1), h2⟩
  · cases e
    obtain ⟨a, xs, rfl, h1, h2⟩ := r.ui (d := .tpk _) rfl
    exact ⟨a, xs, rfl, .inr (g.st' h1), h2⟩
  · obtain ⟨a, xs, rfl, h1, h2⟩ := g.lvQ e r
    exact ⟨a, xs, rfl, .inl h1, h2⟩
theorem GR.dv (g : GR Γ F R φ H st) {x : V} {d : D} {ds : List (Key × D)} (e : dvw st d = some ds) (r : Rp Γ F φ x d) : ∃ a ks, x = .ref a ∧ Rd H a (.dK ks) ∧ RpKv Γ F φ ks ds := by
  match d, e with
  | .dic _, e =>
    cases e
    obtain ⟨a, xs, rfl, h1, h2⟩ := r.di
    exact ⟨a, xs, rfl, g.rd h1, h2⟩
  | .obj n, e =>
    simp only [Nm.dvw] at e
    split at e
    · rename_i ds' hs
      cases e
      obtain ⟨a, xs, rfl, _, h1, h2⟩ := g.cellD r hs
      exact ⟨a, xs, rfl, .inl h1, h2⟩
    · rename_i ds' hs
      cases e
      obtain ⟨a, od, xs, rfl, h1, h2⟩ := g.cellK r hs
      exact ⟨a, xs, rfl, .inr ⟨od, h1⟩, h2⟩
    · cases e
theorem RpAll.vi : ∀ {xs ys : List V}, RpAll Γ F φ xs (ys.map D.v) → xs = ys
  | _, [], .nil => rfl
  | _, y :: ys, .cons h t => by rw [h.vi, t.vi]
end
def vOf : D → Option V
  | .v x => some x
  | _ => none
theorem vOf_eq {d : D} {x : V} (h : vOf d = some x) : d = .v x := by
  match d, h with
  | .v _, h => cases h; rfl
def allOf {α : Type} (f : D → Option α) : List D → Option (List α)
  | [] => some []
  | d :: r => (f d).bind fun x => (allOf f r).map (x :: ·)
theorem allOf_eq {α : Type} {f : D → Option α} {g : α → D} (hf : ∀ d x, f d = some x → d = g x) : ∀ {ds : List D} {xs : List α}, allOf f ds = some xs → ds = xs.map g
  | [], xs, h => by cases h; rfl
  | d :: r, xs, h => by
    unfold allOf at h
    cases hd : f d with
    | none => rw [hd] at h; cases h
    | some x =>
      rw [hd] at h
      obtain ⟨ys, h1, rfl⟩ := Option.map_eq_some_iff.mp h
      rw [hf d x hd, allOf_eq hf h1]
      rfl
def vsOf (ds : List D) : Option (List V) := allOf vOf ds
def ssOf (ds : List D) : Option (List Str) := allOf sOf ds
def bsOf (ds : List D) : Option (List Bool) := allOf bOf ds
theorem vsOf_eq {ds : List D} {xs : List V} (h : vsOf ds = some xs) : ds = xs.map D.v := allOf_eq (fun _ _ => vOf_eq) h
theorem ssOf_eq {ds : List D} {xs : List Str} (h : ssOf ds = some xs) : ds = xs.map fun z => D.v (.str z) := allOf_eq (g := fun z => D.v (.str z)) (fun _ _ => sOf_eq) h
theorem bsOf_eq {ds : List D} {xs : List Bool} (h : bsOf ds = some xs) : ds = xs.map fun z => D.v (.bl z) := allOf_eq (g := fun z => D.v (.bl z)) (fun _ _ => bOf_eq) h
theorem rp_strs {Γ : Gm} {F : Hp} {φ : List Addr} {xs : List V} {ys : List Str} (r : RpAll Γ F φ xs (ys.map fun z => D.v (.str z))) : xs = ys.map V.str := by
  have e : (ys.map fun z => D.v (.str z)) = (ys.map V.str).map D.v := by rw [List.map_map]; rfl
  rw [e] at r
  exact r.vi
theorem rp_bools {Γ : Gm} {F : Hp} {φ : List Addr} {xs : List V} {ys : List Bool} (r : RpAll Γ F φ xs (ys.map fun z => D.v (.bl z))) : xs = ys.map V.bl := by
  have e : (ys.map fun z => D.v (.bl z)) = (ys.map V.bl).map D.v := by rw [List.map_map]; rfl
  rw [e] at r
  exact r.vi
def valD {κ : Type} [DecidableEq κ] (kvs : List (κ × D)) (k : κ) : Option D := (kvs.find? fun kv => decide (kv.1 = k)).map (·.2)
def putD {κ : Type} [DecidableEq κ] (kvs : List (κ × D)) (k : κ) (v : D) : List (κ × D) := if (kvs.any fun kv => decide (kv.1 = k)) = true then kvs.map (fun kv => if kv.1 = k then (kv.1, v) else kv) else kvs ++ [(k, v)]
def dropD {κ : Type} [DecidableEq κ] (kvs : List (κ × D)) (k : κ) : List (κ × D) := kvs.filter fun kv => decide (kv.1 ≠ k)
def mergeD (kvs more : List (Key × D)) : List (Key × D) := more.foldl (fun acc kv => putD acc kv.1 kv.2) kvs
section
variable {Γ : Gm} {F : Hp} {φ : List Addr}
theorem RpKv.val : ∀ {ks : List (Key × V)} {ds : List (Key × D)} (k : Key), RpKv Γ F φ ks ds → (valV ks k = none ∧ valD ds k = none) ∨ ∃ v d, valV ks k = some v ∧ valD ds k = some d ∧ Rp Γ F φ v d
  | _, _, k, .kn => .inl ⟨rfl, rfl⟩
  | (k', x) :: _, (_, d) :: _, k, .kc r t => by
    by_cases h : k' = k
    · exact .inr ⟨x, d, by unfold valV; rw [List.find?_cons, decide_eq_true h]; rfl, by unfold valD; rw [List.find?_cons, decide_eq_true h]; rfl, r⟩
    · have e1 : ∀ l, valV ((k', x) :: l) k = valV l k := fun l => by unfold valV; rw [List.find?_cons, decide_eq_false h]
      have e2 : ∀ l, valD ((k', d) :: l) k = valD l k := fun l => by unfold valD; rw [List.find?_cons, decide_eq_false h]
      rw [e1, e2]
      exact RpKv.val k t
theorem RpKv.app : ∀ {xs ys : List (Key × V)} {ds es : List (Key × D)}, RpKv Γ F φ xs ds → RpKv Γ F φ ys es → RpKv Γ F φ (xs ++ ys) (ds ++ es)
  | _, _, _, _, .kn, g => g
  | _, _, _, _, .kc h t, g => .kc h (t.app g)
theorem RpKv.any : ∀ {ks : List (Key × V)} {ds : List (Key × D)} (k : Key), RpKv Γ F φ ks ds → (ks.any fun kv => decide (kv.1 = k)) = (ds.any fun kv => decide (kv.1 = k))
  | _, _, k, .kn => rfl
  | _, _, k, .kc r t => by rw [List.any_cons, List.any_cons, RpKv.any k t]
theorem RpKv.rep {v : V} {d : D} (k : Key) (r : Rp Γ F φ v d) : ∀ {ks : List (Key × V)} {ds : List (Key × D)}, RpKv Γ F φ ks ds → RpKv Γ F φ (ks.map fun kv => if kv.1 = k then (kv.1, v) else kv) (ds.map fun kv => if kv.1 = k then (kv.1, d) else kv)
  | _, _, .kn => .kn
  | (k', x) :: _, (_, d') :: _, .kc r' t => by
    rw [List.map_cons, List.map_cons]
    by_cases h : k' = k
    · rw [if_pos h, if_pos h]; exact .kc r (t.rep k r)
    · rw [if_neg h, if_neg h]; exact .kc r' (t.rep k r)
theorem RpKv.put {ks : List (Key × V)} {ds : List (Key × D)} {v : V} {d : D} (k : Key) (h : RpKv Γ F φ ks ds) (r : Rp Γ F φ v d) : RpKv Γ F φ (putK ks k v) (putD ds k d) := by
  unfold putK putD
  rw [h.any k]
  split
  · exact h.rep k r
  · exact h.app (.kc r .kn)
theorem RpKv.drop (k : Key) : ∀ {ks : List (Key × V)} {ds : List (Key × D)}, RpKv Γ F φ ks ds → RpKv Γ F φ (dropK ks k) (dropD ds k)
  | _, _, .kn => .kn
  | (k', x) :: xs, (_, d') :: ds, .kc r' t => by
    have ih := RpKv.drop k t
    unfold dropK dropD at ih ⊢
    rw [List.filter_cons, List.filter_cons]
    by_cases h : k' = k
    · have e : decide (k' ≠ k) = false := decide_eq_false (fun z => z h)
      simp only [e]
      exact ih
    · have e : decide (k' ≠ k) = true := decide_eq_true h
      simp only [e]
      exact .kc r' ih
theorem RpKv.keys : ∀ {ks : List (Key × V)} {ds : List (Key × D)}, RpKv Γ F φ ks ds → ks.map (·.1) = ds.map (·.1)
  | _, _, .kn => rfl
  | _, _, .kc _ t => by rw [List.map_cons, List.map_cons, t.keys]
theorem RpKv.keyV : ∀ {ks : List (Key × V)} {ds : List (Key × D)}, RpKv Γ F φ ks ds → RpAll Γ F φ (ks.map fun kv => kV kv.1) (ds.map fun kv => D.v (kV kv.1))
  | _, _, .kn => .nil
  | _, _, .kc _ t => .cons (.v _) t.keyV
theorem RpKv.get : ∀ {ks : List (Key × V)} {ds : List (Key × D)} (i : Nat) (k : Key) (v : V), RpKv Γ F φ ks ds → ks[i]? = some (k, v) → ∃ d, ds[i]? = some (k, d) ∧ Rp Γ F φ v d
  | _, _, i, k, v, .kn, h => by cases i <;> cases h
  | _, _, 0, k, v, .kc r t, h => by cases h; exact ⟨_, rfl, r⟩
  | _, _, i + 1, k, v, .kc r t, h => RpKv.get i k v t h
end
section
variable {Γ : Gm}
def fI0 (g : Int → Int → V) : D → D → GS → Option (D × GS) := fun x y st => match iOf x, iOf y with
  | some i, some j => some (.v (g i j), st)
  | _, _ => none
def fI (c : Int → Int → Bool) (g : Int → Int → V) : D → D → GS → Option (D × GS) := fun x y st => match iOf x, iOf y with
  | some i, some j => if c i j = true then some (.v (g i j), st) else none
  | _, _ => none
theorem simr_I {C : Int → Int → Prop} {c : Int → Int → Bool} {g : Int → Int → V} (hc : ∀ i j, c i j = true → C i j) : SimR Γ (rI C g) (fI c g) := by
  intro F R φ H st x y dx dy hG rx ry Q h
  unfold fI at h
  match h1 : iOf dx, h2 : iOf dy, h with
  | some i, some j, h =>
    rw [iOf_eq h1] at rx
    rw [iOf_eq h2] at ry
    obtain ⟨k, h⟩ := h.ifp
    exact ⟨i, j, rx.vi, ry.vi, hc i j k, h.now hG (.v _)⟩
  | some _, none, h => exact h.no.elim
  | none, _, h => exact h.no.elim
def cMod (_ j : Int) : Bool := decide (0 < j)
def cDiv (_ j : Int) : Bool := decide (0 < j ∧ j < 1073741824)
def cMul (i j : Int) : Bool := decide ((-(2 ^ 64) < i ∧ i < 2 ^ 64) ∨ (-(2 ^ 64) < j ∧ j < 2 ^ 64))
def cPow (i j : Int) : Bool := decide (0 ≤ j ∧ j ≤ 1000000 ∧ i.natAbs < 2 ^ 64)
theorem cMod_ok : ∀ i j, cMod i j = true → (fun _ j : Int => 0 < j) i j := fun _ _ h => of_decide_eq_true h
theorem cDiv_ok : ∀ i j, cDiv i j = true → CDiv i j := fun i j h => by
  unfold cDiv at h
  rw [decide_eq_true_eq] at h
  exact h
theorem cMul_ok : ∀ i j, cMul i j = true → CMul i j := fun i j h => by
  unfold cMul at h
  rw [decide_eq_true_eq] at h
  exact h
theorem cPow_ok : ∀ i j, cPow i j = true → CPow i j := fun i j h => by
  unfold cPow at h
  rw [decide_eq_true_eq] at h
  exact h
def fAdd : D → D → GS → Option (D × GS) := fun x y st => match x, y with
  | .v (.int i), .v (.int j) => some (.v (.int (i + j)), st)
  | .v (.str a), .v (.str b) => if a.length + b.length ≤ 100000 then some (.v (.str (a ++ b)), st) else none
  | x, y => match lvX st x, lvX st y with
    | some xs, some ys => if xs.length + ys.length ≤ 100000 then some (.lst (xs ++ ys), st) else none
    | _, _ => match uOf x, uOf y with
      | some xs, some ys => if xs.length + ys.length ≤ 100000 then (match xs, ys with
        | [], _ => some (y, st)
        | _ :: _, [] => some (x, st)
        | _ :: _, _ :: _ => some (.tup (xs ++ ys), st)) else none
      | _, _ => none
theorem simr_add : SimR Γ (rAddA Γ.K) fAdd := by
  intro F R φ H st x y dx dy hG rx ry Q h
  unfold fAdd at h
  split at h
  · exact .inl ⟨_, _, rx.vi, ry.vi, h.now hG (.v _)⟩
  · obtain ⟨k, h⟩ := h.ifp
    exact .inr (.inl ⟨_, _, rx.vi, ry.vi, sz_of k, h.now hG (.v _)⟩)
  · split at h
    · rename_i xs ys e1 e2
      obtain ⟨k, h⟩ := h.ifp
      obtain ⟨a, xs', rfl, h1, r1⟩ := hG.lvX e1 rx
      obtain ⟨b, ys', rfl, h2, r2⟩ := hG.lvX e2 ry
      exact .inr (.inr (.inl ⟨a, b, xs', ys', rfl, rfl, h1, h2, sz_of (by rw [r1.len, r2.len]; exact k), fun p n => h.newL hG (r1.app r2) n⟩))
    · split at h
      · rename_i xs ys e1 e2
        obtain ⟨k, h⟩ := h.ifp
        obtain ⟨a, xs', rfl, h1, r1⟩ := rx.ui e1
        obtain ⟨b, ys', rfl, h2, r2⟩ := ry.ui e2
        refine .inr (.inr (.inr ⟨a, b, xs', ys', rfl, rfl, hG.st' h1, hG.st' h2, sz_of (by rw [r1.len, r2.len]; exact k), fun e => ?_, fun e e' => ?_, fun e e' p n => ?_⟩))
        · subst e
          cases r1
          exact h.now hG ry
        · subst e'
          cases r2
          cases r1 with
          | nil => exact absurd rfl e
          | cons _ _ => exact h.now hG rx
        · cases r1 with
          | nil => exact absurd rfl e
          | cons a1 a2 => cases r2 with
            | nil => exact absurd rfl e'
            | cons b1 b2 => exact h.newT hG ((RpAll.cons a1 a2).app (.cons b1 b2)) n
      · exact h.no.elim
def fMul : D → D → GS → Option (D × GS) := fun x y st => match x, y with
  | .v (.int i), .v (.int j) => if cMul i j = true then some (.v (.int (i * j)), st) else none
  | .v (.str z), .v (.int k) => if 0 ≤ k ∧ k ≤ 1000 ∧ z.length ≤ 1000 then some (.v (.str (repS z k.toNat)), st) else none
  | x, .v (.int k) => match lvX st x with
    | some xs => if 0 ≤ k ∧ k ≤ 100000 ∧ xs.length * k.toNat ≤ 100000 then some (.lst (List.replicate k.toNat xs).flatten, st) else none
    | none => none
  | _, _ => none
theorem RpAll.rep {F : Hp} {φ : List Addr} {xs : List V} {ds : List D} (r : RpAll Γ F φ xs ds) : ∀ n : Nat, RpAll Γ F φ (List.replicate n xs).flatten (List.replicate n ds).flatten
  | 0 => .nil
  | n + 1 => by rw [List.replicate_succ, List.replicate_succ, List.flatten_cons, List.flatten_cons]; exact r.app (r.rep n)
theorem simr_mul : SimR Γ rMulA fMul := by
  intro F R φ H st x y dx dy hG rx ry Q h
  unfold fMul at h
  split at h
  · obtain ⟨k, h⟩ := h.ifp
    exact .inl ⟨_, _, rx.vi, ry.vi, cMul_ok _ _ k, h.now hG (.v _)⟩
  · obtain ⟨⟨k1, k2, k3⟩, h⟩ := h.ifp
    exact .inr (.inr ⟨_, _, rx.vi, ry.vi, k1, k2, k3, h.now hG (.v _)⟩)
  · split at h
    · rename_i xs e1
      obtain ⟨⟨k1, k2, k3⟩, h⟩ := h.ifp
      obtain ⟨a, xs', rfl, h1, r1⟩ := hG.lvX e1 rx
      exact .inr (.inl ⟨a, _, xs', rfl, ry.vi, h1, by omega, by omega, sz_of (by rw [r1.len]; exact k3), fun p n => h.newL hG (r1.rep _) n⟩)
    · exact h.no.elim
  · exact h.no.elim
def fCmp (gi : Int → Int → Bool) (gs : Str → Str → Bool) : D → D → GS → Option (D × GS) := fun x y st => match x, y with
  | .v (.int i), .v (.int j) => some (.v (.bl (gi i j)), st)
  | .v (.str a), .v (.str b) => some (.v (.bl (gs a b)), st)
  | _, _ => none
def ltZ (a b : Str) : Bool := decide (a.cps.toList < b.cps.toList)
abbrev fLt := fCmp (fun i j => decide (i < j)) ltZ
abbrev fGt := fCmp (fun i j => decide (j < i)) fun a b => ltZ b a
abbrev fGe := fCmp (fun i j => decide (j ≤ i)) fun a b => !ltZ a b
theorem simr_lt : SimR Γ rLtA fLt := by
  intro F R φ H st x y dx dy hG rx ry Q h
  unfold fLt fCmp at h
  split at h
  · exact .inl ⟨_, _, rx.vi, ry.vi, h.now hG (.v _)⟩
  · exact .inr ⟨_, _, rx.vi, ry.vi, h.now hG (.v _)⟩
  · exact h.no.elim
theorem simr_gt : SimR Γ rGtA fGt := by
  intro F R φ H st x y dx dy hG rx ry Q h
  unfold fGt fCmp at h
  split at h
  · exact .inl ⟨_, _, rx.vi, ry.vi, h.now hG (.v _)⟩
  · exact .inr ⟨_, _, rx.vi, ry.vi, h.now hG (.v _)⟩
  · exact h.no.elim
theorem simr_ge : SimR Γ rGeA fGe := by
  intro F R φ H st x y dx dy hG rx ry Q h
  unfold fGe fCmp at h
  split at h
  · exact .inl ⟨_, _, rx.vi, ry.vi, h.now hG (.v _)⟩
  · exact .inr ⟨_, _, rx.vi, ry.vi, h.now hG (.v _)⟩
  · exact h.no.elim
def fLe : D → D → GS → Option (D × GS) := fun x y st => match x, y with
  | .v (.int i), .v (.int j) => some (.v (.bl (decide (i ≤ j))), st)
  | .v (.str a), .v (.str b) => some (.v (.bl (!ltZ b a)), st)
  | .tup [.v (.int i), .v (.str z)], .tup [.v (.int j), .v (.str w)] => some (.v (.bl (leP i j (decide (z = w)) (!decide (w.cps.toList < z.cps.toList)))), st)
  | _, _ => none
theorem simr_le : SimR Γ (rLeA Γ.K) fLe := by
  intro F R φ H st x y dx dy hG rx ry Q h
  unfold fLe at h
  split at h
  · exact .inl ⟨_, _, rx.vi, ry.vi, h.now hG (.v _)⟩
  · exact .inr (.inl ⟨_, _, rx.vi, ry.vi, h.now hG (.v _)⟩)
  · rename_i i z j w
    obtain ⟨a, xs, rfl, h1, r1⟩ := rx.ti
    obtain ⟨b, ys, rfl, h2, r2⟩ := ry.ti
    have e1 : xs = [V.int i, V.str z] := RpAll.vi (ys := [V.int i, V.str z]) r1
    have e2 : ys = [V.int j, V.str w] := RpAll.vi (ys := [V.int j, V.str w]) r2
    subst e1
    subst e2
    exact .inr (.inr ⟨a, b, i, j, z, w, rfl, rfl, st_of (hG.f _ _ h1), st_of (hG.f _ _ h2), h.now hG (.v _)⟩)
  · exact h.no.elim
end
end Nm
set_option Elab.async false
set_option linter.all false
set_option maxRecDepth 100000
set_option maxHeartbeats 4000000
namespace Nm
open PySem PySem.Spec PyProof.Rows L2 Evl
theorem PGv {Γ : Gm} {F H : Hp} {R : Rr} {φ : List Addr} {st : GS} {d : D} {v : V} {Q : VK} (h : PV Γ F R φ (some (d, st)) Q) (g : GR Γ F R φ H st) (r : Rp Γ F φ v d) : Q v H := PG.now h g r
mutual
def pyD : D → Option PyData
  | .v .non => some .none
  | .v (.bl b) => some (.bool b)
  | .v (.int i) => some (.int i)
  | .v (.str z) => some (.str z)
  | .v _ => none
  | .lst ds => (pyDs ds).map .list
  | .lsk ds => (pyDs ds).map .list
  | .tup ds => (pyDs ds).map .tuple
  | .tpk ds => (pyDs ds).map .tuple
  | .dic _ => none
  | .dit _ => none
  | .obj _ => none
  | .ins _ _ => none
  | .cls _ => none
  | .exn _ _ => none
  | .exv _ _ => none
def pyDs : List D → Option (List PyData)
  | [] => some []
  | d :: r => (pyD d).bind fun e => (pyDs r).map (e :: ·)
end
theorem bind_map_cons {α : Type} {a : Option α} {r : Option (List α)} {es : List α} (h : (a.bind fun e => r.map (e :: ·)) = some es) : ∃ e t, a = some e ∧ r = some t ∧ es = e :: t := by
  cases a with
  | none => cases h
  | some e =>
    obtain ⟨t, h1, rfl⟩ := Option.map_eq_some_iff.mp h
    exact ⟨e, t, rfl, h1, rfl⟩
section
variable {Γ : Gm} {F H : Hp} {R : Rr} {φ : List Addr} {st : GS}
theorem GR.dp (g : GR Γ F R φ H st) {v : V} {d : D} (h : Rp Γ F φ v d) : ∀ e, pyD d = some e → Dp Γ.K H v e := by
  induction h using Rp.rec (motive_2 := fun xs ds _ => ∀ es, pyDs ds = some es → DpAll Γ.K H xs es) (motive_3 := fun _ _ _ => True) (motive_4 := fun _ _ _ => True) (motive_5 := fun _ _ _ => True) with
  | v x =>
    intro e h
    cases x <;> first | (simp only [pyD] at h; cases h; constructor) | (simp only [pyD] at h; cases h)
  | lst h _ ih =>
    intro e k
    simp only [pyD] at k
    obtain ⟨es, h1, rfl⟩ := Option.map_eq_some_iff.mp k
    exact .lst (sq_of (g.f _ _ h)) (ih es h1)
  | lsk h _ ih =>
    intro e k
    simp only [pyD] at k
    obtain ⟨es, h1, rfl⟩ := Option.map_eq_some_iff.mp k
    exact .lst (g.sq h) (ih es h1)
  | tup h _ ih =>
    intro e k
    simp only [pyD] at k
    obtain ⟨es, h1, rfl⟩ := Option.map_eq_some_iff.mp k
    exact .tup (st_of (g.f _ _ h)) (ih es h1)
  | tpk h _ ih =>
    intro e k
    simp only [pyD] at k
    obtain ⟨es, h1, rfl⟩ := Option.map_eq_some_iff.mp k
    exact .tup (g.st' h) (ih es h1)
  | dic => intro e k; simp only [pyD] at k; cases k
  | dit => intro e k; simp only [pyD] at k; cases k
  | obj => intro e k; simp only [pyD] at k; cases k
  | ins => intro e k; simp only [pyD] at k; cases k
  | cls => intro e k; simp only [pyD] at k; cases k
  | exv => intro e k; simp only [pyD] at k; cases k
  | exw => intro e k; simp only [pyD] at k; cases k
  | nil => rename_i es k; simp only [pyDs] at k; cases k; exact .nil
  | cons _ _ h1 h2 =>
    rename_i es k
    simp only [pyDs] at k
    obtain ⟨e, t, k1, k2, rfl⟩ := bind_map_cons k
    exact .cons (h1 e k1) (h2 t k2)
  | kn => trivial
  | kc => trivial
  | tn => trivial
  | tc => trivial
  | fn => trivial
  | fc => trivial
theorem GR.dps (g : GR Γ F R φ H st) : ∀ {xs : List V} {ds : List D}, RpAll Γ F φ xs ds → ∀ es, pyDs ds = some es → DpAll Γ.K H xs es
  | _, _, .nil, es, k => by simp only [pyDs] at k; cases k; exact .nil
  | _, _, .cons h t, es, k => by
    simp only [pyDs] at k
    obtain ⟨e, r, k1, k2, rfl⟩ := bind_map_cons k
    exact .cons (g.dp h e k1) (g.dps t r k2)
/-- also of a list that changes -/
def pyS (st : GS) (d : D) : Option PyData := match lvX st d with
  | some ds => (pyDs ds).map .list
  | none => pyD d
theorem GR.dpS (g : GR Γ F R φ H st) {v : V} {d : D} (h : Rp Γ F φ v d) {e : PyData} (k : pyS st d = some e) : Dp Γ.K H v e := by
  unfold pyS at k
  split at k
  · rename_i ds hd
    obtain ⟨es, h1, rfl⟩ := Option.map_eq_some_iff.mp k
    obtain ⟨a, xs, rfl, h2, h3⟩ := g.lvX hd h
    exact .lst (sq_of h2) (g.dps h3 es h1)
  · exact g.dp h e k
end
/-- a dict of plain values -/
def vkOf : List (Key × D) → Option (List (Key × V))
  | [] => some []
  | (k, d) :: r => (vOf d).bind fun x => (vkOf r).map ((k, x) :: ·)
theorem vkOf_eq {Γ : Gm} {F : Hp} {φ : List Addr} : ∀ {ks : List (Key × V)} {ds : List (Key × D)} {vs : List (Key × V)}, RpKv Γ F φ ks ds → vkOf ds = some vs → ks = vs
  | _, _, _, .kn, h => by cases h; rfl
  | _, _, _, .kc r t, h => by
    unfold vkOf at h
    rename_i k x d xs ds
    cases hd : vOf d with
    | none => rw [hd] at h; cases h
    | some y =>
      rw [hd] at h
      obtain ⟨zs, h1, rfl⟩ := Option.map_eq_some_iff.mp h
      rw [vOf_eq hd] at r
      rw [r.vi, vkOf_eq t h1]
def flatKs (ks ls : List (Key × V)) : Bool := ks.all fun p => match valV ls p.1 with
  | some v => flatP p.2 v
  | none => true
theorem flatKs_ok {ks ls : List (Key × V)} (h : flatKs ks ls = true) : ∀ p ∈ ks, ∀ v, valV ls p.1 = some v → flatP p.2 v = true := fun p hp v hv => by
  have := List.all_eq_true.mp h p hp
  rw [hv] at this
  exact this
/-- a dict and a text -/
def dsAny (st : GS) (x y : D) : Bool := ((dvw st x).isSome && (sOf y).isSome) || ((sOf x).isSome && (dvw st y).isSome)
/-- two lists of unlike lengths -/
def llAny (st : GS) (x y : D) : Bool := match lvX st x, lvX st y with
  | some xs, some ys => decide (xs.length ≠ ys.length)
  | _, _ => false
def elAny (st : GS) (x y : D) : Option Bool := if dsAny st x y = true then some false else if llAny st x y = true then some false else none
def eqAny (st : GS) (x y : D) : Option Bool := match x, y with
  | .v a, .v b => if scal a b = true then some (decide (a = b)) else none
  | x, y => match dvw st x, dvw st y with
    | some ks, some ls => match vkOf ks, vkOf ls with
      | some ks, some ls => if flatKs ks ls = true then some (decide (ks.length = ls.length) && kvAll ls ks) else none
      | _, _ => none
    | _, _ => match pyS st x, pyS st y with
      | some d, some e => if SeqAt.shaped d = true ∧ SeqAt.shaped e = true then some (PyData.eqv d e) else none
      | _, _ => elAny st x y
def fEq : D → D → GS → Option (D × GS) := fun x y st => (eqAny st x y).map fun b => (.v (.bl b), st)
def fNe : D → D → GS → Option (D × GS) := fun x y st => (eqAny st x y).map fun b => (.v (.bl (!b)), st)
section
variable {Γ : Gm}
theorem eqAny_ok {F H : Hp} {R : Rr} {φ : List Addr} {st : GS} (hG : GR Γ F R φ H st) {x y : V} {dx dy : D} (rx : Rp Γ F φ x dx) (ry : Rp Γ F φ y dy) {b : Bool} (h : eqAny st dx dy = some b) {P : Prop} {P1 : Bool → Prop}
    (k1 : scal x y = true → b = decide (x = y) → P) (k2 : ∀ d e, Dp Γ.K H x d → Dp Γ.K H y e → SeqAt.shaped d = true → SeqAt.shaped e = true → b = PyData.eqv d e → P)
    (k3 : ∀ p q ks ls, x = .ref p → y = .ref q → Rd H p (.dK ks) → Rd H q (.dK ls) → (∀ p ∈ ks, ∀ v, valV ls p.1 = some v → flatP p.2 v = true) → b = (decide (ks.length = ls.length) && kvAll ls ks) → P)
    (k4 : ((∃ a ks z, x = .ref a ∧ y = .str z ∧ Rd H a (.dK ks)) ∨ ∃ a ks z, x = .str z ∧ y = .ref a ∧ Rd H a (.dK ks)) → b = false → P)
    (k5 : (∃ a b xs ys, x = .ref a ∧ y = .ref b ∧ SqL Γ.K H a xs ∧ SqL Γ.K H b ys ∧ xs.length ≠ ys.length) → b = false → P) : P := by
  unfold eqAny at h
  split at h
  · split at h
    · cases h
      rw [rx.vi, ry.vi] at k1
      exact k1 (by assumption) rfl
    · cases h
  · split at h
    · rename_i ks ls e1 e2
      split at h
      · rename_i ks' ls' e3 e4
        split at h
        · rename_i fl
          cases h
          obtain ⟨p, xs, rfl, h1, r1⟩ := hG.dv e1 rx
          obtain ⟨q, ys, rfl, h2, r2⟩ := hG.dv e2 ry
          rw [vkOf_eq r1 e3] at h1
          rw [vkOf_eq r2 e4] at h2
          exact k3 p q ks' ls' rfl rfl h1 h2 (flatKs_ok fl) rfl
        · cases h
      · cases h
    · split at h
      · rename_i d e e1 e2
        split at h
        · rename_i sh
          cases h
          exact k2 d e (hG.dpS rx e1) (hG.dpS ry e2) sh.1 sh.2 rfl
        · cases h
      · unfold elAny at h
        split at h
        · rename_i hds
          cases h
          refine k4 ?_ rfl
          unfold dsAny at hds
          rw [Bool.or_eq_true, Bool.and_eq_true, Bool.and_eq_true] at hds
          rcases hds with ⟨a1, a2⟩ | ⟨a1, a2⟩
          · obtain ⟨ks, h1⟩ := Option.isSome_iff_exists.mp a1
            obtain ⟨z, h2⟩ := Option.isSome_iff_exists.mp a2
            obtain ⟨p, xs, rfl, h3, _⟩ := hG.dv h1 rx
            rw [sOf_eq h2] at ry
            exact .inl ⟨p, xs, z, rfl, ry.vi, h3⟩
          · obtain ⟨z, h1⟩ := Option.isSome_iff_exists.mp a1
            obtain ⟨ks, h2⟩ := Option.isSome_iff_exists.mp a2
            obtain ⟨p, xs, rfl, h3, _⟩ := hG.dv h2 ry
            rw [sOf_eq h1] at rx
            exact .inr ⟨p, xs, z, rx.vi, rfl, h3⟩
        · split at h
          · rename_i hll
            cases h
            refine k5 ?_ rfl
            unfold llAny at hll
            split at hll
            · rename_i xs ys h1 h2
              obtain ⟨a, us, rfl, e1, r1⟩ := hG.lvX h1 rx
              obtain ⟨b, ws, rfl, e2, r2⟩ := hG.lvX h2 ry
              have := of_decide_eq_true hll
              exact ⟨a, b, us, ws, rfl, rfl, sq_of e1, sq_of e2, by rw [r1.len, r2.len]; exact this⟩
            · cases hll
          · cases h
theorem simr_eq : SimR Γ (rEqA Γ.K) fEq := by
  intro F R φ H st x y dx dy hG rx ry Q h
  unfold fEq at h
  cases he : eqAny st dx dy with
  | none => rw [he] at h; exact h.no.elim
  | some b =>
    rw [he] at h
    have h : PV Γ F R φ (some (.v (.bl b), st)) Q := h
    have q := h.now hG (.v _)
    exact eqAny_ok (P1 := fun _ => True) hG rx ry he (fun k e => .inl ⟨k, e ▸ q⟩) (fun d e a1 a2 a3 a4 z => .inr (.inl ⟨d, e, a1, a2, a3, a4, z ▸ q⟩)) (fun p q' ks ls e1 e2 a1 a2 a3 z => .inr (.inr (.inl ⟨p, q', ks, ls, e1, e2, a1, a2, a3, z ▸ q⟩))) (fun e z => .inr (.inr (.inr (.inl ⟨e, by subst z; exact q⟩)))) fun e z => .inr (.inr (.inr (.inr ⟨e, by subst z; exact q⟩)))
theorem simr_ne : SimR Γ (rNeA Γ.K) fNe := by
  intro F R φ H st x y dx dy hG rx ry Q h
  unfold fNe at h
  cases he : eqAny st dx dy with
  | none => rw [he] at h; exact h.no.elim
  | some b =>
    rw [he] at h
    have h : PV Γ F R φ (some (.v (.bl (!b)), st)) Q := h
    have q := h.now hG (.v _)
    exact eqAny_ok (P1 := fun _ => True) hG rx ry he (fun k e => .inl ⟨k, e ▸ q⟩) (fun d e a1 a2 a3 a4 z => .inr (.inl ⟨d, e, a1, a2, a3, a4, z ▸ q⟩)) (fun p q' ks ls e1 e2 a1 a2 a3 z => .inr (.inr (.inl ⟨p, q', ks, ls, e1, e2, a1, a2, a3, z ▸ q⟩))) (fun e z => .inr (.inr (.inr (.inl ⟨e, by subst z; exact q⟩)))) fun e z => .inr (.inr (.inr (.inr ⟨e, by subst z; exact q⟩)))
def chOf (z : Str) : Option Nat := match z.cps.toList with
  | [c] => some c
  | _ => none
theorem chOf_eq {z : Str} {c : Nat} (h : chOf z = some c) : z = ⟨#[c]⟩ := by
  unfold chOf at h
  split at h
  · rename_i c' e
    cases h
    exact Str.ext' (Array.toList_inj.mp e)
  · cases h
def inAny (st : GS) (x y : D) : Option Bool := match y with
  | .v (.str z) => match x with
    | .v (.str s) => (chOf s).map fun c => decide (c ∈ z.cps.toList)
    | _ => none
  | y => match dvw st y with
    | some ks => (kOf x).map fun k => (valD ks k).isSome
    | none => match sv st y with
      | some ds => match vOf x, vsOf ds with
        | some a, some xs => if flatV a = true ∧ xs.all flatV = true then some (inV a xs) else none
        | _, _ => match lvQ st y, pyD x, pyDs ds with
          | some _, some d, some es => if SeqAt.shaped d = true ∧ SeqAt.shaped (.list es) = true then some (es.any fun z => PyData.eqv z d) else none
          | _, _, _ => if ((dvw st x).isSome && ((lvQ st y).bind ssOf).isSome) = true then some false else none
      | none => none
def fIn : D → D → GS → Option (D × GS) := fun x y st => (inAny st x y).map fun b => (.v (.bl b), st)
def fNIn : D → D → GS → Option (D × GS) := fun x y st => (inAny st x y).map fun b => (.v (.bl (!b)), st)
theorem lvQ_sv {st : GS} {y : D} {ds es : List D} (h : lvQ st y = some ds) (k : sv st y = some es) : ds = es := by
  unfold sv at k
  split at k
  · unfold lvQ at h; cases h
  · unfold lvQ at h; cases h
  · rw [h] at k; exact Option.some.inj k
theorem inAny_ok {F H : Hp} {R : Rr} {φ : List Addr} {st : GS} (hG : GR Γ F R φ H st) {x y : V} {dx dy : D} (rx : Rp Γ F φ x dx) (ry : Rp Γ F φ y dy) {b : Bool} (h : inAny st dx dy = some b) {P : Prop}
    (k1 : ∀ (c : Nat) (z : Str), x = .str ⟨#[c]⟩ → y = .str z → b = decide (c ∈ z.cps.toList) → P) (k2 : ∀ p xs, y = .ref p → (SqL Γ.K H p xs ∨ SqT Γ.K H p xs) → flatV x = true → xs.all flatV = true → b = inV x xs → P)
    (k3 : ∀ a o, y = .ref a → DGet H a x o → b = o.isSome → P) (k4 : ∀ d ds, Dp Γ.K H x d → Dp Γ.K H y (.list ds) → SeqAt.shaped d = true → SeqAt.shaped (.list ds) = true → b = (ds.any fun z => PyData.eqv z d) → P)
    (k5 : (∃ (a : Addr) (ks : List (Key × V)) (b : Addr) (zs : List Str), x = .ref a ∧ y = .ref b ∧ Rd H a (.dK ks) ∧ SqL Γ.K H b (zs.map V.str)) → b = false → P) : P := by
  unfold inAny at h
  split at h
  · split at h
    · obtain ⟨c, h1, rfl⟩ := Option.map_eq_some_iff.mp h
      exact k1 c _ (by rw [rx.vi, chOf_eq h1]) ry.vi rfl
    · cases h
  · split at h
    · rename_i ks e1
      obtain ⟨k, h1, rfl⟩ := Option.map_eq_some_iff.mp h
      obtain ⟨a, xs, rfl, h2, r⟩ := hG.dv e1 ry
      have ex : x = kV k := by rw [kOf_eq h1] at rx; exact rx.vi
      subst ex
      refine k3 a (valV xs k) rfl (.inl ⟨xs, k, h2, rfl, rfl⟩) ?_
      rcases r.val k with ⟨z1, z2⟩ | ⟨v, d, z1, z2, _⟩
      · rw [z1, z2]; rfl
      · rw [z1, z2]; rfl
    · split at h
      · rename_i ds e1
        obtain ⟨p, xs, rfl, hq, r⟩ := hG.sv e1 ry
        split at h
        · rename_i a vs ea evs
          split at h
          · rename_i fl
            cases h
            rw [vOf_eq ea] at rx
            rw [vsOf_eq evs] at r
            rw [r.vi] at hq
            rw [rx.vi] at k2
            exact k2 p vs rfl hq fl.1 fl.2 rfl
          · cases h
        · split at h
          · rename_i l d es el ed ees
            split at h
            · rename_i sh
              cases h
              obtain ⟨p', xs', e, hq', r'⟩ := hG.lvQ el ry
              cases e
              have := lvQ_sv el e1
              subst this
              exact k4 d es (hG.dp rx d ed) (.lst hq' (hG.dps r' es ees)) sh.1 sh.2 rfl
            · cases h
          · split at h
            · rename_i hds
              cases h
              rw [Bool.and_eq_true] at hds
              obtain ⟨ks, g1⟩ := Option.isSome_iff_exists.mp hds.1
              obtain ⟨zs, g2⟩ := Option.isSome_iff_exists.mp hds.2
              obtain ⟨es, g3, g4⟩ := Option.bind_eq_some_iff.mp g2
              obtain ⟨p1, xs1, rfl, h3, _⟩ := hG.dv g1 rx
              obtain ⟨p2, xs2, e2, h4, r4⟩ := hG.lvQ g3 ry
              rw [ssOf_eq g4] at r4
              rw [rp_strs r4] at h4
              exact k5 ⟨p1, xs1, p2, zs, rfl, e2, h3, h4⟩ rfl
            · cases h
      · cases h
theorem simr_in : SimR Γ (rInA Γ.K) fIn := by
  intro F R φ H st x y dx dy hG rx ry Q h
  unfold fIn at h
  cases he : inAny st dx dy with
  | none => rw [he] at h; exact h.no.elim
  | some b =>
    rw [he] at h
    have h : PV Γ F R φ (some (.v (.bl b), st)) Q := h
    have q := h.now hG (.v _)
    exact inAny_ok hG rx ry he (fun c z e1 e2 e => .inl ⟨c, z, e1, e2, e ▸ q⟩) (fun p xs e1 a1 a2 a3 e => .inr (.inl ⟨p, xs, e1, a1, a2, a3, by subst e; exact q⟩)) (fun a o e1 g e => .inr (.inr (.inl ⟨a, o, e1, g, by subst e; exact q⟩)))
      (fun d ds a1 a2 a3 a4 e => .inr (.inr (.inr (.inl ⟨d, ds, a1, a2, a3, a4, e ▸ q⟩)))) fun e z => .inr (.inr (.inr (.inr ⟨e, by subst z; exact q⟩)))
theorem simr_nin : SimR Γ (rNInA Γ.K) fNIn := by
  intro F R φ H st x y dx dy hG rx ry Q h
  unfold fNIn at h
  cases he : inAny st dx dy with
  | none => rw [he] at h; exact h.no.elim
  | some b =>
    rw [he] at h
    have h : PV Γ F R φ (some (.v (.bl (!b)), st)) Q := h
    have q := h.now hG (.v _)
    exact inAny_ok hG rx ry he (fun c z e1 e2 e => .inl ⟨c, z, e1, e2, e ▸ q⟩) (fun p xs e1 a1 a2 a3 e => .inr (.inl ⟨p, xs, e1, a1, a2, a3, by subst e; exact q⟩)) (fun a o e1 g e => .inr (.inr (.inl ⟨a, o, e1, g, by subst e; exact q⟩)))
      (fun d ds a1 a2 a3 a4 e => .inr (.inr (.inr (.inl ⟨d, ds, a1, a2, a3, a4, e ▸ q⟩)))) fun e z => .inr (.inr (.inr (.inr ⟨e, by subst z; exact q⟩)))
def fNeg : D → GS → Option (D × GS) := fun x st => (iOf x).map fun i => (.v (.int (-i)), st)
theorem simu_neg : SimU Γ (rU fun i => .int (-i)) fNeg := by
  intro F R φ H st x dx hG rx Q h
  unfold fNeg at h
  cases e : iOf dx with
  | none => rw [e] at h; exact h.no.elim
  | some i =>
    rw [e] at h
    rw [iOf_eq e] at rx
    exact ⟨i, rx.vi, PGv (d := .v (.int (-i))) h hG (.v _)⟩
def fIx : D → D → GS → Option (D × GS) := fun x y st => match x, y with
  | .v (.str z), .v (.int i) => if z.length ≤ 100000 then (atI z.cps.toList i).map fun c => (.v (.str ⟨#[c]⟩), st) else none
  | x, y => match dvw st x with
    | some ks => match kOf y with
      | some k => (valD ks k).map fun d => (d, st)
      | none => none
    | none => match sv st x, iOf y with
      | some ds, some i => (atI ds i).map fun d => (d, st)
      | _, _ => none
theorem RpAll.at' {F : Hp} {φ : List Addr} {xs : List V} {ds : List D} (r : RpAll Γ F φ xs ds) {i : Int} {d : D} (h : atI ds i = some d) : ∃ v, atI xs i = some v ∧ Rp Γ F φ v d := by
  unfold atI at h ⊢
  rw [r.len]
  cases hi : ixN ds.length i with
  | none => rw [hi] at h; cases h
  | some j =>
    rw [hi] at h
    exact r.get j d h
theorem simr_ix : SimR Γ (rIxA Γ.K) fIx := by
  intro F R φ H st x y dx dy hG rx ry Q h
  unfold fIx at h
  split at h
  · rename_i z i
    obtain ⟨k, h⟩ := h.ifp
    cases e : atI z.cps.toList i with
    | none => rw [e] at h; exact h.no.elim
    | some c =>
      rw [e] at h
      exact .inr (.inr (.inl ⟨z, i, c, rx.vi, ry.vi, sz_of k, e, PGv (d := .v (.str ⟨#[c]⟩)) h hG (.v _)⟩))
  · split at h
    · rename_i ks e1
      obtain ⟨a, xs, rfl, h2, r⟩ := hG.dv e1 rx
      split at h
      · rename_i k e2
        rw [kOf_eq e2] at ry
        have ey := ry.vi
        subst ey
        rcases r.val k with ⟨z1, z2⟩ | ⟨v, d, z1, z2, rd⟩
        · rw [z2] at h; exact h.no.elim
        · rw [z2] at h
          exact .inr (.inr (.inr ⟨a, v, rfl, .inl ⟨xs, k, h2, rfl, z1.symm⟩, PGv (d := d) h hG rd⟩))
      · exact h.no.elim
    · split at h
      · rename_i ds i e1 e2
        rw [iOf_eq e2] at ry
        have ey := ry.vi
        subst ey
        obtain ⟨a, xs, rfl, hq, r⟩ := hG.sv e1 rx
        cases e : atI ds i with
        | none => rw [e] at h; exact h.no.elim
        | some d =>
          rw [e] at h
          obtain ⟨v, hv, rv⟩ := r.at' e
          have q := PGv (d := d) h hG rv
          rcases hq with hq | hq
          · exact .inl ⟨a, xs, i, v, rfl, rfl, hq, hv, q⟩
          · exact .inr (.inl ⟨a, xs, i, v, rfl, rfl, hq, hv, q⟩)
      · exact h.no.elim
def cutD (xs : List D) (lo hi : Option Int) : List D := (xs.drop (HT.sIx xs.length 0 lo)).take (HT.sIx xs.length xs.length hi - HT.sIx xs.length 0 lo)
theorem RpAll.drop {F : Hp} {φ : List Addr} : ∀ {xs : List V} {ds : List D} (n : Nat), RpAll Γ F φ xs ds → RpAll Γ F φ (xs.drop n) (ds.drop n)
  | _, _, 0, r => r
  | _, _, n + 1, .nil => .nil
  | _, _, n + 1, .cons _ t => t.drop n
theorem RpAll.take {F : Hp} {φ : List Addr} : ∀ {xs : List V} {ds : List D} (n : Nat), RpAll Γ F φ xs ds → RpAll Γ F φ (xs.take n) (ds.take n)
  | _, _, 0, r => .nil
  | _, _, n + 1, .nil => .nil
  | _, _, n + 1, .cons h t => .cons h (t.take n)
theorem RpAll.cut {F : Hp} {φ : List Addr} {xs : List V} {ds : List D} (r : RpAll Γ F φ xs ds) (lo hi : Option Int) : RpAll Γ F φ (cutV xs lo hi) (cutD ds lo hi) := by
  unfold cutV cutD
  rw [r.len]
  exact (r.drop _).take _
def fSl : D → Option Int → Option Int → GS → Option (D × GS) := fun x lo hi st => match x with
  | .v (.str z) => if z.length ≤ 100000 then some (.v (.str (cutS z lo hi)), st) else none
  | x => match lvQ st x with
    | some ds => some (.lst (cutD ds lo hi), st)
    | none => match uOf x with
      | some ds => if HT.sIx ds.length 0 lo = 0 ∧ HT.sIx ds.length ds.length hi = ds.length then some (x, st) else some (.tup (cutD ds lo hi), st)
      | none => none
theorem sims_sl : SimSl Γ (fun x lo hi H Q => rSlS x lo hi H Q ∨ rSlL Γ.K x lo hi H Q ∨ rSlA Γ.K x lo hi H Q) fSl := by
  intro F R φ H st x dx lo hi hG rx Q h
  unfold fSl at h
  split at h
  · rename_i z
    obtain ⟨k, h⟩ := h.ifp
    exact .inl ⟨z, rx.vi, sz_of k, h.now hG (.v _)⟩
  · split at h
    · rename_i ds e1
      obtain ⟨a, xs, rfl, hq, r⟩ := hG.lvQ e1 rx
      exact .inr (.inl ⟨a, xs, rfl, hq, fun p n => h.newL hG (r.cut lo hi) n⟩)
    · split at h
      · rename_i ds e1
        obtain ⟨a, xs, rfl, hq, r⟩ := rx.ui e1
        refine .inr (.inr ⟨a, xs, rfl, hG.st' hq, fun c => ?_, fun c p n => ?_⟩)
        · rw [r.len] at c
          rw [if_pos c] at h
          exact h.now hG rx
        · rw [r.len] at c
          rw [if_neg c] at h
          exact h.newT hG (r.cut lo hi) n
      · exact h.no.elim
end
end Nm
set_option Elab.async false
set_option linter.all false
set_option maxRecDepth 100000
set_option maxHeartbeats 4000000
namespace Nm
open PySem PySem.Spec PyProof.Rows L2 Evl
section
variable {Γ : Gm}
def fLen : List D → GS → Option (D × GS) := fun xs st => match xs with
  | [.v (.str z)] => if z.length ≤ 100000 then some (.v (.int (z.length : Int)), st) else none
  | [x] => match dvw st x with
    | some ks => some (.v (.int (ks.length : Int)), st)
    | none => match sv st x with
      | some ds => some (.v (.int (ds.length : Int)), st)
      | none => none
  | _ => none
theorem simc_len : SimC Γ (rLenA Γ.K) fLen := by
  intro F R φ H st xs ds hG r Q h
  unfold fLen at h
  split at h
  · cases r with
    | cons r1 r2 =>
      cases r2
      obtain ⟨k, h⟩ := h.ifp
      exact .inl ⟨_, by rw [r1.vi], sz_of k, h.now hG (.v _)⟩
  · cases r with
    | cons r1 r2 =>
      cases r2
      split at h
      · rename_i ks e1
        obtain ⟨a, xs, rfl, h2, rr⟩ := hG.dv e1 r1
        exact .inr (.inr (.inl ⟨a, xs, rfl, h2, by rw [rr.len]; exact h.now hG (.v _)⟩))
      · split at h
        · rename_i ds e1
          obtain ⟨a, xs, rfl, h2, rr⟩ := hG.sv e1 r1
          exact .inr (.inl ⟨a, xs, rfl, h2, by rw [rr.len]; exact h.now hG (.v _)⟩)
        · exact h.no.elim
  · exact h.no.elim
def f1I (g : Int → Int) : List D → GS → Option (D × GS) := fun xs st => match xs with
  | [.v (.int i)] => some (.v (.int (g i)), st)
  | _ => none
def f2I (g : Int → Int → Int) : List D → GS → Option (D × GS) := fun xs st => match xs with
  | [.v (.int i), .v (.int j)] => some (.v (.int (g i j)), st)
  | _ => none
theorem simc_1I {g : Int → Int} : SimC Γ (fun xs H Q => ∃ i, xs = [.int i] ∧ Q (.int (g i)) H) (f1I g) := by
  intro F R φ H st xs ds hG r Q h
  unfold f1I at h
  split at h
  · cases r with
    | cons r1 r2 => cases r2; exact ⟨_, by rw [r1.vi], h.now hG (.v _)⟩
  · exact h.no.elim
theorem simc_2I {g : Int → Int → Int} : SimC Γ (fun xs H Q => ∃ i j, xs = [.int i, .int j] ∧ Q (.int (g i j)) H) (f2I g) := by
  intro F R φ H st xs ds hG r Q h
  unfold f2I at h
  split at h
  · cases r with
    | cons r1 r2 => cases r2 with
      | cons r2 r3 => cases r3; exact ⟨_, _, by rw [r1.vi, r2.vi], h.now hG (.v _)⟩
  · exact h.no.elim
def sgsD (l : List Nat) : List D := l.map fun c => .v (.str (sgS c))
theorem rp_sgs {F : Hp} {φ : List Addr} (l : List Nat) : RpAll Γ F φ (sgs l) (sgsD l) := by
  unfold sgs sgsD
  have := RpAll.vs (Γ := Γ) (F := F) (φ := φ) (l.map fun c => V.str (sgS c))
  rw [List.map_map] at this
  exact this
def fList : List D → GS → Option (D × GS) := fun xs st => match xs with
  | [.v (.str z)] => if z.length ≤ 100000 then some (.lst (sgsD z.cps.toList), st) else none
  | [x] => match dvw st x with
    | some ks => some (.lst (ks.map fun kv => .v (kV kv.1)), st)
    | none => match sv st x with
      | some ds => some (.lst ds, st)
      | none => none
  | _ => none
def ordZ (a b : Str) : Bool := !ltCps b.cps.toList a.cps.toList
def srtZ (xs : List Str) : List Str := xs.mergeSort ordZ
theorem srtZ_perm (xs : List Str) : (srtZ xs).Perm xs := List.mergeSort_perm ..
theorem srtZ_sorted (xs : List Str) : sortedS (srtZ xs) = true := by
  refine pw_sorted ?_
  have h := List.pairwise_mergeSort (le := ordZ) (fun a b c h1 h2 => ?_) (fun a b => ?_) xs
  · refine h.imp fun {a b} hab => ?_
    unfold leS
    unfold ordZ at hab
    simpa using hab
  · have h1 : leS a b := by unfold leS; unfold ordZ at h1; simpa using h1
    have h2 : leS b c := by unfold leS; unfold ordZ at h2; simpa using h2
    have h3 := leS_trans h1 h2
    unfold ordZ
    unfold leS at h3
    rw [h3]
    rfl
  · unfold ordZ
    cases e1 : ltCps b.cps.toList a.cps.toList with
    | false => rfl
    | true =>
      cases e2 : ltCps a.cps.toList b.cps.toList with
      | false => rfl
      | true =>
        have := ltCps_trans _ _ _ e1 e2
        rw [ltCps_irr] at this
        cases this
theorem srtZ_one {xs ys : List Str} (p : ys.Perm xs) (s : sortedS ys = true) : ys = srtZ xs := sorted_eq (p.trans (srtZ_perm xs).symm) s (srtZ_sorted xs)
def strsD (xs : List Str) : List D := xs.map fun z => .v (.str z)
theorem rp_strsD {F : Hp} {φ : List Addr} (l : List Str) : RpAll Γ F φ (l.map V.str) (strsD l) := by
  unfold strsD
  have := RpAll.vs (Γ := Γ) (F := F) (φ := φ) (l.map V.str)
  rw [List.map_map] at this
  exact this
def keyS : List (Key × D) → Option (List Str)
  | [] => some []
  | (.inr z, _) :: r => (keyS r).map (z :: ·)
  | (.inl _, _) :: _ => none
theorem keyS_eq : ∀ {ks : List (Key × D)} {zs : List Str}, keyS ks = some zs → ks.map (·.1) = zs.map Sum.inr
  | [], zs, h => by cases h; rfl
  | (.inr z, _) :: r, zs, h => by
    unfold keyS at h
    obtain ⟨ys, h1, rfl⟩ := Option.map_eq_some_iff.mp h
    rw [List.map_cons, List.map_cons, keyS_eq h1]
  | (.inl _, _) :: _, zs, h => by cases h
def fSorted : List D → GS → Option (D × GS) := fun xs st => match xs with
  | [.v (.str z)] => if z.length < 64 then some (.lst (strsD (srtZ (z.cps.toList.map sgS))), st) else none
  | [x] => match dvw st x with
    | some ks => match keyS ks with
      | some zs => if zs.length < 64 then some (.lst (strsD (srtZ zs)), st) else none
      | none => none
    | none => match lvQ st x with
      | some ds => match ssOf ds with
        | some zs => if zs.length ≤ 100000 then some (.lst (strsD (srtZ zs)), st) else none
        | none => none
      | none => none
  | _ => none
theorem simc_sorted : SimC Γ (rSortedA Γ.K) fSorted := by
  intro F R φ H st xs ds hG r Q h
  unfold fSorted at h
  split at h
  · cases r with
    | cons r1 r2 =>
      cases r2
      obtain ⟨k, h⟩ := h.ifp
      exact .inr (.inl ⟨_, by rw [r1.vi], k, fun ys p pe so n => by rw [srtZ_one pe so]; exact h.newL hG (rp_strsD _) n⟩)
  · cases r with
    | cons r1 r2 =>
      cases r2
      split at h
      · rename_i ks e1
        obtain ⟨a, xs, rfl, h2, rr⟩ := hG.dv e1 r1
        split at h
        · rename_i zs e2
          obtain ⟨k, h⟩ := h.ifp
          exact .inr (.inr ⟨a, xs, zs, rfl, h2, by rw [rr.keys, keyS_eq e2], k, fun ys p pe so n => by rw [srtZ_one pe so]; exact h.newL hG (rp_strsD _) n⟩)
        · exact h.no.elim
      · split at h
        · rename_i ds e1
          obtain ⟨a, xs, rfl, h2, rr⟩ := hG.lvQ e1 r1
          split at h
          · rename_i zs e2
            obtain ⟨k, h⟩ := h.ifp
            rw [ssOf_eq e2] at rr
            rw [rp_strs rr] at h2
            exact .inl ⟨a, zs, rfl, h2, k, fun ys p pe so n => by rw [srtZ_one pe so]; exact h.newL hG (rp_strsD _) n⟩
          · exact h.no.elim
        · exact h.no.elim
  · exact h.no.elim
def fAll : List D → GS → Option (D × GS) := fun xs st => match xs with
  | [x] => match lvQ st x with
    | some ds => (bsOf ds).map fun bs => (.v (.bl (bs.all id)), st)
    | none => none
  | _ => none
def fAny : List D → GS → Option (D × GS) := fun xs st => match xs with
  | [x] => match lvQ st x with
    | some ds => (bsOf ds).map fun bs => (.v (.bl (bs.any id)), st)
    | none => none
  | _ => none
theorem simc_all : SimC Γ (rAll Γ.K) fAll := by
  intro F R φ H st xs ds hG r Q h
  unfold fAll at h
  split at h
  · cases r with
    | cons r1 r2 =>
      cases r2
      split at h
      · rename_i ds e1
        obtain ⟨a, xs, rfl, h2, rr⟩ := hG.lvQ e1 r1
        cases e2 : bsOf ds with
        | none => rw [e2] at h; exact h.no.elim
        | some bs =>
          rw [e2] at h
          rw [bsOf_eq e2] at rr
          rw [rp_bools rr] at h2
          exact ⟨a, bs, rfl, h2, PGv (d := .v (.bl (bs.all id))) h hG (.v _)⟩
      · exact h.no.elim
  · exact h.no.elim
theorem simc_any : SimC Γ (rAny Γ.K) fAny := by
  intro F R φ H st xs ds hG r Q h
  unfold fAny at h
  split at h
  · cases r with
    | cons r1 r2 =>
      cases r2
      split at h
      · rename_i ds e1
        obtain ⟨a, xs, rfl, h2, rr⟩ := hG.lvQ e1 r1
        cases e2 : bsOf ds with
        | none => rw [e2] at h; exact h.no.elim
        | some bs =>
          rw [e2] at h
          rw [bsOf_eq e2] at rr
          rw [rp_bools rr] at h2
          exact ⟨a, bs, rfl, h2, PGv (d := .v (.bl (bs.any id))) h hG (.v _)⟩
      · exact h.no.elim
  · exact h.no.elim
def tyOf (st : GS) : D → Option String
  | .v .non => some "NoneType"
  | .v (.bl _) => some "bool"
  | .v (.int _) => some "int"
  | .v (.str _) => some "str"
  | .v _ => none
  | .lst _ => some "list"
  | .lsk _ => none
  | .tup _ => some "tuple"
  | .tpk _ => none
  | .dic _ => some "dict"
  | .dit _ => none
  | .obj n => match st[n]? with
    | some (.lst _) => some "list"
    | some (.dic _) => some "dict"
    | _ => none
  | .ins _ _ => none
  | .cls _ => none
  | .exn _ _ => none
  | .exv _ _ => none
theorem tyOf_ok {F H : Hp} {R : Rr} {φ : List Addr} {st : GS} (g : GR Γ F R φ H st) {x : V} {d : D} (r : Rp Γ F φ x d) {n : String} (h : tyOf st d = some n) : TyX Γ.K H x (.type n) := by
  match d, h with
  | .v .non, h => cases h; rw [r.vi]; exact .base .non
  | .v (.bl _), h => cases h; rw [r.vi]; exact .base (.bl _)
  | .v (.int _), h => cases h; rw [r.vi]; exact .base (.int _)
  | .v (.str _), h => cases h; rw [r.vi]; exact .base (.str _)
  | .lst _, h =>
    cases h
    obtain ⟨a, xs, rfl, h1, _⟩ := r.li
    exact .base (.lst (g.f _ _ h1))
  | .tup _, h =>
    cases h
    obtain ⟨a, xs, rfl, h1, _⟩ := r.ti
    exact .base (.tup (g.f _ _ h1))
  | .dic _, h =>
    cases h
    obtain ⟨a, xs, rfl, h1, _⟩ := r.di
    rcases g.rd h1 with h2 | ⟨o, h2⟩
    · exact .base (.dK h2)
    · exact .fDict h2
  | .obj n, h =>
    simp only [tyOf] at h
    split at h
    · rename_i ds e
      cases h
      obtain ⟨a, xs, rfl, _, h1, _⟩ := g.cellL r e
      exact .base (.lst h1)
    · rename_i ds e
      cases h
      obtain ⟨a, xs, rfl, _, h1, _⟩ := g.cellD r e
      exact .base (.dK h1)
    · cases h
def isTy (a b : String) : Option Bool := if a = b then some true else match a, b with
  | "bool", "int" => some true
  | "bool", "str" => some false
  | "bool", "list" => some false
  | "bool", "tuple" => some false
  | "bool", "dict" => some false
  | "int", "bool" => some false
  | "int", "str" => some false
  | "int", "list" => some false
  | "int", "tuple" => some false
  | "int", "dict" => some false
  | "str", "int" => some false
  | "str", "bool" => some false
  | "str", "list" => some false
  | "str", "tuple" => some false
  | "str", "dict" => some false
  | "NoneType", "int" => some false
  | "NoneType", "bool" => some false
  | "NoneType", "str" => some false
  | "NoneType", "list" => some false
  | "NoneType", "tuple" => some false
  | "NoneType", "dict" => some false
  | "list", "int" => some false
  | "list", "bool" => some false
  | "list", "str" => some false
  | "list", "tuple" => some false
  | "list", "dict" => some false
  | "tuple", "int" => some false
  | "tuple", "bool" => some false
  | "tuple", "str" => some false
  | "tuple", "list" => some false
  | "tuple", "dict" => some false
  | "dict", "int" => some false
  | "dict", "bool" => some false
  | "dict", "str" => some false
  | "dict", "list" => some false
  | "dict", "tuple" => some false
  | _, _ => none
theorem isTy_ok {K : Fg} {a b : String} {c : Bool} (h : isTy a b = some c) : PySem.W.kitOne K (.type a) (.type b) = some c := by
  unfold isTy at h
  split at h
  · rename_i e
    cases h
    subst e
    unfold PySem.W.kitOne
    simp
  · split at h <;> first | (cases h; rfl) | cases h
def fIsi : List D → GS → Option (D × GS) := fun xs st => match xs with
  | [x, .v (.ty n)] => match tyOf st x with
    | some t => (isTy t n).map fun b => (.v (.bl b), st)
    | none => none
  | _ => none
theorem simc_isi : SimC Γ (rIsi Γ.K) fIsi := by
  intro F R φ H st xs ds hG r Q h
  unfold fIsi at h
  split at h
  · rename_i x0 n
    cases r with
    | cons r1 r2 => cases r2 with
      | cons r2 r3 =>
        cases r3
        split at h
        · rename_i t e1
          cases e2 : isTy t n with
          | none => rw [e2] at h; exact h.no.elim
          | some b =>
            rw [e2] at h
            have := r2.vi
            subst this
            exact ⟨_, _, _, _, b, rfl, .ty n, tyOf_ok hG r1 e1, isTy_ok e2, PGv (d := .v (.bl b)) h hG (.v _)⟩
        · exact h.no.elim
  · exact h.no.elim
def fJoin : D → D → GS → Option (D × GS) := fun x y st => match x, sv st y with
  | .v (.str z), some ds => match ssOf ds with
    | some ys => if (ys.map (·.length)).sum + ys.length * z.length ≤ 100000 then some (.v (.str (Txt.join z ys)), st) else none
    | none => none
  | _, _ => none
theorem simr_join : SimR Γ (fun x y H Q => rJoin Γ.K x [y] H Q) fJoin := by
  intro F R φ H st x y dx dy hG rx ry Q h
  unfold fJoin at h
  split at h
  · rename_i z ds e1
    split at h
    · rename_i ys e2
      obtain ⟨k, h⟩ := h.ifp
      obtain ⟨a, xs, rfl, h2, rr⟩ := hG.sv e1 ry
      rw [ssOf_eq e2] at rr
      rw [rp_strs rr] at h2
      exact ⟨z, a, ys, rx.vi, rfl, h2, by omega, h.now hG (.v _)⟩
    · exact h.no.elim
  · exact h.no.elim
end
end Nm
set_option Elab.async false
set_option linter.all false
set_option maxRecDepth 100000
set_option maxHeartbeats 4000000
namespace Nm
open PySem PySem.Spec PyProof.Rows L2 Evl
abbrev EnvD := List (Option D)
/-- the error that is being handled: its object, its class, its own dict -/
abbrev Ea := Option (Addr × Addr × Option Addr)
/-- what is wished of an error, what is handled -/
structure Xi where
  W : WX
  ea : Ea
def XdR (Γ : Gm) (F : Hp) (φ : List Addr) : Option Addr → List (Str × D) → Prop
  | none, fs => fs = []
  | some a, fs => ∃ gs, F a = some (.xd gs) ∧ RpFs Γ F φ gs fs
/-- what a slot holds -/
def SlR (Γ : Gm) (ea : Ea) (F : Hp) (φ : List Addr) (v : V) (d : D) : Prop :=
  Rp Γ F φ v d ∨ ∃ c fs a C x, d = .exn c fs ∧ ea = some (a, C, x) ∧ v = .ref a ∧ Γ.cl c = some C ∧ XdR Γ F φ x fs
structure EnvR (Γ : Gm) (ea : Ea) (F : Hp) (φ : List Addr) (σ : L2.St) (env : EnvD) : Prop where
  l : σ.length = env.length
  g : ∀ (i : Nat) (d : D), env[i]? = some (some d) → ∃ v, σ[i]? = some (some v) ∧ SlR Γ ea F φ v d
def wipeD (env : EnvD) : List Nat → EnvD
  | [] => env
  | v :: vs => (wipeD env vs).set v none
/-- slots that are wiped are none -/
theorem wipe_at {τ : L2.St} {vs : List Nat} {i : Nat} (hi : i ∈ vs) : (wipe τ vs)[i]? = if i < τ.length then some none else none := by
  by_cases h : i < τ.length
  · rw [if_pos h]
    cases e : (wipe τ vs)[i]? with
    | none => rw [List.getElem?_eq_none_iff, wipe_length] at e; omega
    | some o => cases o with
      | none => rfl
      | some v => exact absurd hi (wipe_some e).2
  · rw [if_neg h, List.getElem?_eq_none_iff, wipe_length]; omega
theorem wipe_same {σ τ : L2.St} {vs : List Nat} (hl : τ.length = σ.length) (h : ∀ k : Nat, k ∉ vs → τ[k]? = σ[k]?) : wipe τ vs = wipe σ vs := by
  refine List.ext_getElem? fun i => ?_
  by_cases hi : i ∈ vs
  · rw [wipe_at hi, wipe_at hi, hl]
  · rw [wipe_out hi, wipe_out hi, h i hi]
section
variable {Γ : Gm} {ea : Ea} {F F' H H' : Hp} {R : Rr} {φ φ' : List Addr} {σ : L2.St} {env : EnvD} {st : GS}
theorem XdR.mono {x : Option Addr} {fs : List (Str × D)} (x1 : Ex F F') (p : φ <+: φ') (h : XdR Γ F φ x fs) : XdR Γ F' φ' x fs := by
  cases x with
  | none => exact h
  | some a => obtain ⟨gs, h1, h2⟩ := h; exact ⟨gs, x1 _ _ h1, h2.mono (Le.of x1) p⟩
theorem SlR.to {v : V} {d : D} (e : Ex F F') (p : φ <+: φ') (h : SlR Γ ea F φ v d) : SlR Γ ea F' φ' v d := by
  rcases h with h | ⟨c, fs, a, C, x, h1, h2, h3, h4, h5⟩
  · exact .inl (h.mono (Le.of e) p)
  · exact .inr ⟨c, fs, a, C, x, h1, h2, h3, h4, h5.mono e p⟩
theorem EnvR.to (e : Ex F F') (p : φ <+: φ') (h : EnvR Γ ea F φ σ env) : EnvR Γ ea F' φ' σ env := ⟨h.l, fun i d e' => by
  obtain ⟨v, h1, h2⟩ := h.g i d e'
  exact ⟨v, h1, h2.to e p⟩⟩
theorem EnvR.setS {v : V} {d : D} {i : Nat} (h : EnvR Γ ea F φ σ env) (r : SlR Γ ea F φ v d) : EnvR Γ ea F φ (σ.set i (some v)) (env.set i (some d)) := by
  refine ⟨by rw [List.length_set, List.length_set]; exact h.l, fun j d' e => ?_⟩
  by_cases hj : j = i
  · subst hj
    have hl := (List.getElem?_eq_some_iff.mp e).1
    rw [List.length_set] at hl
    rw [List.getElem?_set_self hl] at e
    cases e
    exact ⟨v, List.getElem?_set_self (by rw [h.l]; exact hl), r⟩
  · rw [List.getElem?_set_ne (Ne.symm hj)] at e ⊢
    exact h.g j d' e
theorem EnvR.set {v : V} {d : D} {i : Nat} (h : EnvR Γ ea F φ σ env) (r : Rp Γ F φ v d) : EnvR Γ ea F φ (σ.set i (some v)) (env.set i (some d)) := h.setS (.inl r)
theorem EnvR.forget {i : Nat} (h : EnvR Γ ea F φ σ env) : EnvR Γ ea F φ (σ.set i none) (env.set i none) := by
  refine ⟨by rw [List.length_set, List.length_set]; exact h.l, fun j d' e => ?_⟩
  by_cases hj : j = i
  · subst hj
    have hl := (List.getElem?_eq_some_iff.mp e).1
    rw [List.length_set] at hl
    rw [List.getElem?_set_self hl] at e
    cases e
  · rw [List.getElem?_set_ne (Ne.symm hj)] at e ⊢
    exact h.g j d' e
theorem EnvR.wipe (h : EnvR Γ ea F φ σ env) : ∀ vs : List Nat, EnvR Γ ea F φ (L2.wipe σ vs) (wipeD env vs)
  | [] => h
  | v :: vs => (h.wipe vs).forget
end
inductive Re (α : Type) where
  | ok (a : α) (s : GS)
  | ex (c : Str) (fs : List (Str × D)) (s : GS)
abbrev RO (α : Type) := Option (Re α)
def bn {α β : Type} (r : RO α) (k : α → GS → RO β) : RO β := match r with
  | some (.ok a s) => k a s
  | some (.ex c fs s) => some (.ex c fs s)
  | none => none
def lft {α : Type} : Option (α × GS) → RO α
  | some (a, s) => some (.ok a s)
  | none => none
/-- r ends well and what stands for its result is wanted, or what it raises is -/
def PX {α β : Type} (rel : Gm → Hp → List Addr → β → α → Prop) (Γ : Gm) (E : XK) (F : Hp) (R : Rr) (φ : List Addr) (r : RO α) (Q : β → Hp → Prop) : Prop := match r with
  | some (.ok d st) => ∀ F' φ' v H', Ex F F' → φ <+: φ' → GR Γ F' R φ' H' st → rel Γ F' φ' v d → Q v H'
  | some (.ex c fs st) => ∀ F' φ' C x H', Ex F F' → φ <+: φ' → GR Γ F' R φ' H' st → Γ.cl c = some C → XdR Γ F' φ' x fs → E (.ref C) x H'
  | none => False
section
variable {α β γ δ : Type} {rel : Gm → Hp → List Addr → β → α → Prop} {rel1 : Gm → Hp → List Addr → δ → γ → Prop} {Γ : Gm} {E : XK} {F F' H : Hp} {R : Rr} {φ φ' : List Addr} {st : GS}
theorem PX.up {r : RO α} {Q : β → Hp → Prop} (e : Ex F F') (p : φ <+: φ') (h : PX rel Γ E F R φ r Q) : PX rel Γ E F' R φ' r Q := by
  match r, h with
  | some (.ok d st), h => exact fun G ψ v H' x y g => h G ψ v H' (e.trans x) (p.trans y) g
  | some (.ex c fs st), h => exact fun G ψ C x H' y z g => h G ψ C x H' (e.trans y) (p.trans z) g
theorem PX.bn {r : RO γ} {k : γ → GS → RO α} {Q : β → Hp → Prop} {Q1 : δ → Hp → Prop} (h : PX rel Γ E F R φ (bn r k) Q)
    (hk : ∀ a s F1 φ1 v1 H1, r = some (.ok a s) → Ex F F1 → φ <+: φ1 → GR Γ F1 R φ1 H1 s → rel1 Γ F1 φ1 v1 a → PX rel Γ E F1 R φ1 (k a s) Q → Q1 v1 H1) : PX rel1 Γ E F R φ r Q1 := by
  match r, h with
  | some (.ok a s), h => exact fun F1 φ1 v1 H1 x p g r1 => hk a s F1 φ1 v1 H1 rfl x p g r1 (PX.up x p h)
  | some (.ex c fs s), h => exact h
theorem PX.now {d : α} {Q : β → Hp → Prop} {v : β} (h : PX rel Γ E F R φ (some (.ok d st)) Q) (g : GR Γ F R φ H st) (r : rel Γ F φ v d) : Q v H :=
  h F φ v H (Ex.refl F) (List.prefix_refl φ) g r
theorem PX.no {Q : β → Hp → Prop} (h : PX rel Γ E F R φ none Q) : False := h
theorem PX.ifp {c : Prop} [Decidable c] {r : RO α} {Q : β → Hp → Prop} (h : PX rel Γ E F R φ (if c then r else none) Q) : c ∧ PX rel Γ E F R φ r Q := by
  by_cases hc : c
  · rw [if_pos hc] at h; exact ⟨hc, h⟩
  · rw [if_neg hc] at h; exact h.elim
/-- by values alone -/
theorem PX.pg {r : Option (α × GS)} {Q : β → Hp → Prop} (h : PX rel Γ E F R φ (lft r) Q) : PG rel Γ F R φ r Q := by
  match r, h with
  | some (d, st), h => exact ⟨d, st, rfl, h⟩
theorem PX.of {r : Option (α × GS)} {Q : β → Hp → Prop} (h : PG rel Γ F R φ r Q) : PX rel Γ E F R φ (lft r) Q := by
  obtain ⟨d, st, rfl, h⟩ := h
  exact h
end
abbrev ME := EnvD → GS → RO D
abbrev MT := EnvD → GS → RO Bool
abbrev MA := EnvD → GS → RO (List D)
abbrev MO := EnvD → GS → RO (Option Int)
def SimE (Γ : Gm) (Ξ : Xi) (te : TE) (m : ME) : Prop := ∀ F R φ σ H env st, EnvR Γ Ξ.ea F φ σ env → GR Γ F R φ H st → ∀ Q, PX Rp Γ (WE Ξ.W σ) F R φ (m env st) Q → te σ H Q
def SimT (Γ : Gm) (Ξ : Xi) (tt : TT) (m : MT) : Prop := ∀ F R φ σ H env st, EnvR Γ Ξ.ea F φ σ env → GR Γ F R φ H st → ∀ Q, PX (relE (α := Bool)) Γ (WE Ξ.W σ) F R φ (m env st) Q → tt σ H Q
def SimA (Γ : Gm) (Ξ : Xi) (ta : TA) (m : MA) : Prop := ∀ F R φ σ H env st, EnvR Γ Ξ.ea F φ σ env → GR Γ F R φ H st → ∀ Q, PX RpAll Γ (WE Ξ.W σ) F R φ (m env st) Q → ta σ H Q
def SimO (Γ : Gm) (Ξ : Xi) (to : TO) (m : MO) : Prop := ∀ F R φ σ H env st, EnvR Γ Ξ.ea F φ σ env → GR Γ F R φ H st → ∀ Q, PX (relE (α := Option Int)) Γ (WE Ξ.W σ) F R φ (m env st) Q → to σ H Q
def mVar (i : Nat) : ME := fun env st => match env[i]? with
  | some (some (.exn _ _)) => none
  | some (some d) => some (.ok d st)
  | _ => none
def mC (x : V) : ME := fun _ st => some (.ok (.v x) st)
def mKon (d : D) : ME := fun _ st => some (.ok d st)
def mOp (f : D → D → GS → Option (D × GS)) (a b : ME) : ME := fun env st => bn (a env st) fun x s => bn (b env s) fun y s => lft (f x y s)
def mUn (f : D → GS → Option (D × GS)) (a : ME) : ME := fun env st => bn (a env st) fun x s => lft (f x s)
def mNil : MA := fun _ st => some (.ok [] st)
def mCons (a : ME) (r : MA) : MA := fun env st => bn (a env st) fun x s => bn (r env s) fun xs s => some (.ok (x :: xs) s)
def mCB (f : List D → GS → Option (D × GS)) (a : MA) : ME := fun env st => bn (a env st) fun xs s => lft (f xs s)
def mTest (a : ME) : MT := fun env st => bn (a env st) fun x s => match bOf x with
  | some b => some (.ok b s)
  | none => none
def mAnd (a b : MT) : MT := fun env st => bn (a env st) fun x s => if x = true then b env s else some (.ok false s)
def mOr (a b : MT) : MT := fun env st => bn (a env st) fun x s => if x = true then some (.ok true s) else b env s
def mNot (a : MT) : MT := fun env st => bn (a env st) fun x s => some (.ok (!x) s)
def mAndV (a b : ME) : ME := fun env st => bn (a env st) fun x s => match bOf x with
  | some true => b env s
  | some false => some (.ok (.v (.bl false)) s)
  | none => none
def mOrV (a b : ME) : ME := fun env st => bn (a env st) fun x s => match bOf x with
  | some true => some (.ok (.v (.bl true)) s)
  | some false => b env s
  | none => none
def mNotV (a : ME) : ME := fun env st => bn (a env st) fun x s => match bOf x with
  | some c => some (.ok (.v (.bl (!c))) s)
  | none => none
def mIf (t : MT) (a b : ME) : ME := fun env st => bn (t env st) fun x s => if x = true then a env s else b env s
def mTup (a : MA) : ME := fun env st => bn (a env st) fun xs s => if xs.length ≤ 100000 then some (.ok (.tup xs) s) else none
def mLst (a : MA) : ME := fun env st => bn (a env st) fun xs s => if xs.length ≤ 100000 then some (.ok (.lst xs) s) else none
def mNoPart : MO := fun _ st => some (.ok none st)
def mPart (a : ME) : MO := fun env st => bn (a env st) fun x s => match iOf x with
  | some i => some (.ok (some i) s)
  | none => none
def mSl (f : D → Option Int → Option Int → GS → Option (D × GS)) (a : ME) (l h : MO) : ME := fun env st => bn (a env st) fun x s => bn (l env s) fun u s => bn (h env s) fun w s => lft (f x u w s)
def mYes : MT := fun _ st => some (.ok true st)
section
variable {Γ : Gm} {Ξ : Xi} {ta tb te : TE} {ma mb : ME} {tt tu : TT} {mt mu : MT} {tA : TA} {mA : MA}
theorem sim_var {i : Nat} : SimE Γ Ξ (tVar i) (mVar i) := by
  intro F R φ σ H env st hE hG Q h
  unfold mVar at h
  split at h
  · exact h.elim
  · rename_i d nd he
    obtain ⟨v, h1, h2⟩ := hE.g i d he
    rcases h2 with h2 | ⟨c, fs, a, C, x, e, _⟩
    · exact ⟨v, h1, h.now hG h2⟩
    · subst e; exact absurd rfl (nd _ _)
  · exact h.elim
theorem sim_c {x : V} : SimE Γ Ξ (tC x) (mC x) := fun F R φ σ H env st hE hG Q h => PX.now h hG (.v x)
/-- a value that stands by itself -/
theorem sim_kon {v : V} {d : D} (r : ∀ F φ, Rp Γ F φ v d) : SimE Γ Ξ (tC v) (mKon d) := fun F R φ σ H env st hE hG Q h => PX.now h hG (r F φ)
theorem sim_op {r : R2} {f : D → D → GS → Option (D × GS)} (ha : SimE Γ Ξ ta ma) (hb : SimE Γ Ξ tb mb) (hr : SimR Γ r f) : SimE Γ Ξ (tOp r ta tb) (mOp f ma mb) := by
  intro F R φ σ H env st hE hG Q h
  refine ha F R φ σ H env st hE hG _ (h.bn fun x s1 F1 φ1 v1 H1 _ x1 p1 g1 r1 h => hb F1 R φ1 σ H1 env s1 (hE.to x1 p1) g1 _ (h.bn fun y s2 F2 φ2 v2 H2 _ x2 p2 g2 r2 h => ?_))
  exact hr F2 R φ2 H2 s2 v1 v2 x y g2 (r1.mono (Le.of x2) p2) r2 Q h.pg
theorem sim_un {r : V → Hp → VK → Prop} {f : D → GS → Option (D × GS)} (ha : SimE Γ Ξ ta ma) (hr : SimU Γ r f) : SimE Γ Ξ (tUn r ta) (mUn f ma) := by
  intro F R φ σ H env st hE hG Q h
  exact ha F R φ σ H env st hE hG _ (h.bn fun x s1 F1 φ1 v1 H1 _ x1 p1 g1 r1 h => hr F1 R φ1 H1 s1 v1 x g1 r1 Q h.pg)
theorem sim_nil : SimA Γ Ξ tNil mNil := fun F R φ σ H env st hE hG Q h => PX.now h hG .nil
theorem sim_cons (ha : SimE Γ Ξ ta ma) (hr : SimA Γ Ξ tA mA) : SimA Γ Ξ (tCons ta tA) (mCons ma mA) := by
  intro F R φ σ H env st hE hG Q h
  exact ha F R φ σ H env st hE hG _ (h.bn fun x s1 F1 φ1 v1 H1 _ x1 p1 g1 r1 h => hr F1 R φ1 σ H1 env s1 (hE.to x1 p1) g1 _ (h.bn fun y s2 F2 φ2 v2 H2 _ x2 p2 g2 r2 h => PX.now h g2 (.cons (r1.mono (Le.of x2) p2) r2)))
theorem sim_cb {r : List V → Hp → VK → Prop} {f : List D → GS → Option (D × GS)} (ha : SimA Γ Ξ tA mA) (hr : SimC Γ r f) : SimE Γ Ξ (tCB r tA) (mCB f mA) := by
  intro F R φ σ H env st hE hG Q h
  exact ha F R φ σ H env st hE hG _ (h.bn fun x s1 F1 φ1 v1 H1 _ x1 p1 g1 r1 h => hr F1 R φ1 H1 s1 v1 x g1 r1 Q h.pg)
theorem sim_test (ha : SimE Γ Ξ ta ma) : SimT Γ Ξ (tTest ta) (mTest ma) := by
  intro F R φ σ H env st hE hG Q h
  refine ha F R φ σ H env st hE hG _ (h.bn fun x s1 F1 φ1 v1 H1 _ x1 p1 g1 r1 h => ?_)
  split at h
  · rename_i b hb
    rw [bOf_eq hb] at r1
    exact ⟨b, r1.vi, PX.now h g1 rfl⟩
  · exact h.elim
theorem sim_B (ha : SimE Γ Ξ ta ma) : SimT Γ Ξ (tB ta) (mTest ma) := sim_test ha
theorem sim_and (ha : SimT Γ Ξ tt mt) (hb : SimT Γ Ξ tu mu) : SimT Γ Ξ (tAnd tt tu) (mAnd mt mu) := by
  intro F R φ σ H env st hE hG Q h
  refine ha F R φ σ H env st hE hG _ (h.bn fun x s1 F1 φ1 v1 H1 _ x1 p1 g1 r1 h => ?_)
  have r1 : v1 = x := r1
  subst r1
  cases v1 with
  | true => exact iteT (hb F1 R φ1 σ H1 env s1 (hE.to x1 p1) g1 Q h)
  | false => exact iteF (PX.now h g1 rfl)
theorem sim_or (ha : SimT Γ Ξ tt mt) (hb : SimT Γ Ξ tu mu) : SimT Γ Ξ (tOr tt tu) (mOr mt mu) := by
  intro F R φ σ H env st hE hG Q h
  refine ha F R φ σ H env st hE hG _ (h.bn fun x s1 F1 φ1 v1 H1 _ x1 p1 g1 r1 h => ?_)
  have r1 : v1 = x := r1
  subst r1
  cases v1 with
  | true => exact iteT (PX.now h g1 rfl)
  | false => exact iteF (hb F1 R φ1 σ H1 env s1 (hE.to x1 p1) g1 Q h)
theorem sim_not (ha : SimT Γ Ξ tt mt) : SimT Γ Ξ (tNot tt) (mNot mt) := by
  intro F R φ σ H env st hE hG Q h
  refine ha F R φ σ H env st hE hG _ (h.bn fun x s1 F1 φ1 v1 H1 _ x1 p1 g1 r1 h => ?_)
  have r1 : v1 = x := r1
  subst r1
  exact PX.now h g1 rfl
theorem sim_andV (ha : SimE Γ Ξ ta ma) (hb : SimE Γ Ξ tb mb) : SimE Γ Ξ (tAndV ta tb) (mAndV ma mb) := by
  intro F R φ σ H env st hE hG Q h
  refine ha F R φ σ H env st hE hG _ (h.bn fun x s1 F1 φ1 v1 H1 _ x1 p1 g1 r1 h => ?_)
  split at h
  · rename_i hx
    rw [bOf_eq hx] at r1
    exact ⟨true, r1.vi, iteT (hb F1 R φ1 σ H1 env s1 (hE.to x1 p1) g1 Q h)⟩
  · rename_i hx
    rw [bOf_eq hx] at r1
    exact ⟨false, r1.vi, iteF (PX.now h g1 (.v _))⟩
  · exact h.elim
theorem sim_orV (ha : SimE Γ Ξ ta ma) (hb : SimE Γ Ξ tb mb) : SimE Γ Ξ (tOrV ta tb) (mOrV ma mb) := by
  intro F R φ σ H env st hE hG Q h
  refine ha F R φ σ H env st hE hG _ (h.bn fun x s1 F1 φ1 v1 H1 _ x1 p1 g1 r1 h => ?_)
  split at h
  · rename_i hx
    rw [bOf_eq hx] at r1
    exact ⟨true, r1.vi, iteT (PX.now h g1 (.v _))⟩
  · rename_i hx
    rw [bOf_eq hx] at r1
    exact ⟨false, r1.vi, iteF (hb F1 R φ1 σ H1 env s1 (hE.to x1 p1) g1 Q h)⟩
  · exact h.elim
theorem sim_notV (ha : SimE Γ Ξ ta ma) : SimE Γ Ξ (tNotV ta) (mNotV ma) := by
  intro F R φ σ H env st hE hG Q h
  refine ha F R φ σ H env st hE hG _ (h.bn fun x s1 F1 φ1 v1 H1 _ x1 p1 g1 r1 h => ?_)
  split at h
  · rename_i c hx
    rw [bOf_eq hx] at r1
    exact ⟨c, r1.vi, PX.now h g1 (.v _)⟩
  · exact h.elim
theorem sim_if (ht : SimT Γ Ξ tt mt) (ha : SimE Γ Ξ ta ma) (hb : SimE Γ Ξ tb mb) : SimE Γ Ξ (tIf tt ta tb) (mIf mt ma mb) := by
  intro F R φ σ H env st hE hG Q h
  refine ht F R φ σ H env st hE hG _ (h.bn fun x s1 F1 φ1 v1 H1 _ x1 p1 g1 r1 h => ?_)
  have r1 : v1 = x := r1
  subst r1
  cases v1 with
  | true => exact iteT (ha F1 R φ1 σ H1 env s1 (hE.to x1 p1) g1 Q h)
  | false => exact iteF (hb F1 R φ1 σ H1 env s1 (hE.to x1 p1) g1 Q h)
/-- a new list, tuple, dict -/
theorem PX.newL {F H : Hp} {R : Rr} {φ : List Addr} {st : GS} {E : XK} {ds : List D} {xs : List V} {Q : VK} (h : PX Rp Γ E F R φ (some (.ok (.lst ds) st)) Q) (g : GR Γ F R φ H st) (r : RpAll Γ F φ xs ds) {p : Addr} (n : H p = none) : Q (.ref p) (upd H p (.lst xs)) :=
  (PX.pg (r := some (D.lst ds, st)) h).newL g r n
theorem PX.newT {F H : Hp} {R : Rr} {φ : List Addr} {st : GS} {E : XK} {ds : List D} {xs : List V} {Q : VK} (h : PX Rp Γ E F R φ (some (.ok (.tup ds) st)) Q) (g : GR Γ F R φ H st) (r : RpAll Γ F φ xs ds) {p : Addr} (n : H p = none) : Q (.ref p) (upd H p (.tup xs)) :=
  (PX.pg (r := some (D.tup ds, st)) h).newT g r n
theorem PX.newD {F H : Hp} {R : Rr} {φ : List Addr} {st : GS} {E : XK} {ds : List (Key × D)} {xs : List (Key × V)} {Q : VK} (h : PX Rp Γ E F R φ (some (.ok (.dic ds) st)) Q) (g : GR Γ F R φ H st) (r : RpKv Γ F φ xs ds) {p : Addr} (n : H p = none) : Q (.ref p) (upd H p (.dK xs)) :=
  (PX.pg (r := some (D.dic ds, st)) h).newD g r n
theorem sim_tup (ha : SimA Γ Ξ tA mA) : SimE Γ Ξ (tTup tA) (mTup mA) := by
  intro F R φ σ H env st hE hG Q h
  refine ha F R φ σ H env st hE hG _ (h.bn fun x s1 F1 φ1 v1 H1 _ x1 p1 g1 r1 h => ?_)
  obtain ⟨hl, h⟩ := h.ifp
  exact ⟨sz_of (by rw [RpAll.len r1]; exact hl), fun p n => h.newT g1 r1 n⟩
theorem sim_lst (ha : SimA Γ Ξ tA mA) : SimE Γ Ξ (tLstS tA) (mLst mA) := by
  intro F R φ σ H env st hE hG Q h
  refine ha F R φ σ H env st hE hG _ (h.bn fun x s1 F1 φ1 v1 H1 _ x1 p1 g1 r1 h => ?_)
  obtain ⟨hl, h⟩ := h.ifp
  exact ⟨sz_of (by rw [RpAll.len r1]; exact hl), fun p n _ => h.newL g1 r1 n⟩
theorem sim_noPart : SimO Γ Ξ tNoPart mNoPart := fun F R φ σ H env st hE hG Q h => PX.now h hG rfl
theorem sim_part (ha : SimE Γ Ξ ta ma) : SimO Γ Ξ (tPart ta) (mPart ma) := by
  intro F R φ σ H env st hE hG Q h
  refine ha F R φ σ H env st hE hG _ (h.bn fun x s1 F1 φ1 v1 H1 _ x1 p1 g1 r1 h => ?_)
  split at h
  · rename_i c hx
    rw [iOf_eq hx] at r1
    exact ⟨c, r1.vi, PX.now h g1 rfl⟩
  · exact h.elim
theorem sim_sl {r : V → Option Int → Option Int → Hp → VK → Prop} {f : D → Option Int → Option Int → GS → Option (D × GS)} {tl th : TO} {ml mh : MO} (ha : SimE Γ Ξ ta ma) (hl : SimO Γ Ξ tl ml) (hh : SimO Γ Ξ th mh) (hr : SimSl Γ r f) : SimE Γ Ξ (tSl r ta tl th) (mSl f ma ml mh) := by
  intro F R φ σ H env st hE hG Q h
  refine ha F R φ σ H env st hE hG _ (h.bn fun x s1 F1 φ1 v1 H1 _ x1 p1 g1 r1 h => hl F1 R φ1 σ H1 env s1 (hE.to x1 p1) g1 _ (h.bn fun y s2 F2 φ2 v2 H2 _ x2 p2 g2 r2 h =>
    hh F2 R φ2 σ H2 env s2 (hE.to (x1.trans x2) (p1.trans p2)) g2 _ (h.bn fun z s3 F3 φ3 v3 H3 _ x3 p3 g3 r3 h => ?_)))
  have r2 : v2 = y := r2
  have r3 : v3 = z := r3
  subst r2
  subst r3
  exact hr F3 R φ3 H3 s3 v1 x v2 v3 g3 (r1.mono (Le.of (x2.trans x3)) (p2.trans p3)) Q h.pg
theorem sim_yes : SimT Γ Ξ tYes mYes := fun F R φ σ H env st hE hG Q h => PX.now h hG rfl
end
end Nm
set_option Elab.async false
set_option linter.all false
set_option maxRecDepth 100000
set_option maxHeartbeats 4000000
namespace Nm
open PySem PySem.Spec PyProof.Rows L2
section
variable {X : Cx} {V0 : CXT} {k : Nat} {f C : Addr} {fd : FuncData} {qs : List Str} {sp : Sp} {dv : List V} {du : List Value} {E : L2.St → XK} {x m : Str} {p pos apos : Pos} {e o : Expr} {es : List Expr} {ta : TE} {t : TA}
def tMakeS (C : Addr) (sp : Sp) (dv : List V) (E : L2.St → XK) (t : TA) : TE := fun σ H Q => t σ H fun vs G => ∀ x dx, G x = none → G dx = none → dx ≠ x →
  sp (.ref x :: (vs ++ dv)) (upd (upd G dx (.own x)) x (.ins C dx [])) (fun v G2 => v = .non ∧ Q (.ref x) G2) (E σ)
theorem run_makeS {pins : List (Addr × Obj)} {σ : L2.St} {H : Hp} {s : Shared} {Q : VK} {us : List Value} {vs : List V} (M : Mk X.K C f) (F : FnOk X.prog X.w X.K X.mg X.base V0 k f fd qs sp) (room : Room (k + 1) X.A)
    (b : Binds X.K fd qs du) (vd : Vals dv du) (ps : PassesAt V0 X σ (E σ)) (I : Inv X pins σ H s) (r : Vals vs us)
    (h : ∀ x dx, H x = none → H dx = none → dx ≠ x → sp (.ref x :: (vs ++ dv)) (upd (upd H dx (.own x)) x (.ins C dx [])) (fun v G2 => v = .non ∧ Q (.ref x) G2) (E σ)) :
    wpAny (model X.prog X.w) X.A (call (.ref C) us) (EP X pins σ Q) X.xe s := by
  have q := h (s.heap.objs.size + 1) s.heap.objs.size (I.hok.fresh (Nat.le_succ _)) (I.hok.fresh (Nat.le_refl _)) (Nat.ne_of_lt (Nat.lt_succ_self _))
  have J := Inv.made (C := C) I
  have rr : Vals (V.ref (s.heap.objs.size + 1) :: (vs ++ dv)) (Value.ref (s.heap.objs.size + 1) :: (us ++ du)) := .cons rfl (r.append vd)
  have len : (Value.ref (s.heap.objs.size + 1) :: us ++ du).length = qs.length := (F.len _ _ _ _ q ▸ rr.length).symm
  have go := F.run _ X.stack _ _ ⟨Value.ref (s.heap.objs.size + 1) :: us, []⟩ (Value.ref (s.heap.objs.size + 1) :: (us ++ du)) _ _ (E σ) (room.make C us []) (J.env0.make C us []) (b _ (Value.ref (s.heap.objs.size + 1) :: us) J.kIn len) rr q
  apply wpAny_call
  apply make_map (f := f) I.kIn M.makes M.init (beq_iff_eq.mp M.fn)
  apply codeAny_mono go
  rintro (er | (_ | _ | _ | u)) s' z
  · exact ps pins _ _ er s' J z
  · exact (show False from z).elim
  · exact (show False from z).elim
  · exact (show False from z).elim
  · obtain ⟨v, H', J3, rv, rfl, q3⟩ := J.after z
    exact ⟨rv, V.ref (s.heap.objs.size + 1), H', J3, rfl, q3⟩
theorem pe_makeS (M : Mk X.K C f) (F : FnOk X.prog X.w X.K X.mg X.base V0 k f fd qs sp) (room : Room (k + 1) X.A) (g : Gl X x) (at_ : X.mg x = some (.ref C)) (b : Binds X.K fd qs du) (vd : Vals dv du) (ps : ∀ σ, PassesAt V0 X σ (E σ))
    (ha : PA X (e :: es) t) (db : (x == ("__debug__" : Str)) = false := by decide) (h1 : starEach (e :: es) X.env = (false, eval e X.env) :: starEach es X.env := by rfl) (h2 : (backTo pos (starEach es X.env)).any (·.1) = false := by rfl) :
    PE X (.Call (.Name x p) (e :: es) [] pos) (tMakeS C sp dv E t) :=
  ⟨fun pins s σ H Q I h => wpAny_Call_Name_kw (ld_glob I g at_ (PySem.W.callWith_K (h₀ := X.base) I.ok.mod.kin M.kp (thn (ha.run pos pins s σ H _ I h) fun _ _ z => match z with | ⟨_, _, J, r, q⟩ => ⟨J.kIn, run_makeS M F room b vd (ps σ) J r q⟩) h1 h2) db)⟩
theorem passF {X : Cx} {σ : L2.St} : PassesAt (L2.CX X.prog X.w) X σ (fun _ _ _ => False) := fun _ _ _ _ _ _ ⟨_, _, _, _, _, _, _, _, _, _, _, _, z⟩ => z.elim
end
end Nm
set_option Elab.async false
set_option linter.all false
set_option maxRecDepth 100000
set_option maxHeartbeats 4000000
namespace Nm
open PySem PySem.Spec PyProof.Rows L2 Evl
inductive SR where
  | nx (env : EnvD) (st : GS)
  | rt (d : D) (st : GS)
  | bk (env : EnvD) (st : GS)
  | ct (env : EnvD) (st : GS)
  | ex (c : Str) (fs : List (Str × D)) (env : EnvD) (st : GS)
abbrev MS := EnvD → GS → Option SR
abbrev MG := D → EnvD → GS → Option (EnvD × GS)
abbrev MGs := List D → EnvD → GS → Option (EnvD × GS)
abbrev MI := EnvD → GS → RO (List D)
def bnS {α : Type} (env : EnvD) (r : RO α) (k : α → GS → Option SR) : Option SR := match r with
  | some (.ok a s) => k a s
  | some (.ex c fs s) => some (.ex c fs env s)
  | none => none
/-- errors are not foreseen here -/
def bq {α β : Type} (r : RO α) (k : α → GS → RO β) : RO β := match r with
  | some (.ok a s) => k a s
  | _ => none
def PSr (Γ : Gm) (Ξ : Xi) (F : Hp) (R : Rr) (φ : List Addr) (r : Option SR) (D0 : Ends) : Prop := match r with
  | some (.nx env st) => ∀ F' φ' σ' H', Ex F F' → φ <+: φ' → EnvR Γ Ξ.ea F' φ' σ' env → GR Γ F' R φ' H' st → D0.nx σ' H'
  | some (.rt d st) => ∀ F' φ' v H', Ex F F' → φ <+: φ' → Rp Γ F' φ' v d → GR Γ F' R φ' H' st → D0.rt v H'
  | some (.bk env st) => ∀ F' φ' σ' H', Ex F F' → φ <+: φ' → EnvR Γ Ξ.ea F' φ' σ' env → GR Γ F' R φ' H' st → D0.bk σ' H'
  | some (.ct env st) => ∀ F' φ' σ' H', Ex F F' → φ <+: φ' → EnvR Γ Ξ.ea F' φ' σ' env → GR Γ F' R φ' H' st → D0.ct σ' H'
  | some (.ex c fs env st) => ∀ F' φ' σ' C x H', Ex F F' → φ <+: φ' → EnvR Γ Ξ.ea F' φ' σ' env → GR Γ F' R φ' H' st → Γ.cl c = some C → XdR Γ F' φ' x fs → Ξ.W (.ref C) x σ' H'
  | none => False
def SimS (Γ : Gm) (Ξ : Xi) (ts : TS) (m : MS) : Prop := ∀ F R φ σ H env st, EnvR Γ Ξ.ea F φ σ env → GR Γ F R φ H st → ∀ D0, PSr Γ Ξ F R φ (m env st) D0 → ts D0 σ H
/-- slots, of a relation that PX can bear -/
abbrev relEnv (ea : Ea) : Gm → Hp → List Addr → L2.St → EnvD → Prop := fun Γ F φ σ env => EnvR Γ ea F φ σ env
def SimG (Γ : Gm) (Ξ : Xi) (g : TG) (m : MG) : Prop := ∀ F R φ σ H env st v d, EnvR Γ Ξ.ea F φ σ env → GR Γ F R φ H st → Rp Γ F φ v d → ∀ Q, PG (relEnv Ξ.ea) Γ F R φ (m d env st) Q → g v σ H Q
def SimGs (Γ : Gm) (Ξ : Xi) (g : TGs) (m : MGs) : Prop := ∀ F R φ σ H env st vs ds, EnvR Γ Ξ.ea F φ σ env → GR Γ F R φ H st → RpAll Γ F φ vs ds → ∀ Q, PG (relEnv Ξ.ea) Γ F R φ (m ds env st) Q → g vs σ H Q
def ItOk (Γ : Gm) (F : Hp) (φ : List Addr) (ds : List D) (G : Hp → Prop) (Y : Nat → Hp → V → Hp → Prop) : Prop :=
  (∀ F2 R2 φ2 H2 st2, Ex F F2 → GR Γ F2 R2 φ2 H2 st2 → G H2) ∧
  ∀ F2 R2 φ2 H2 st2 i v H3, Ex F F2 → φ <+: φ2 → GR Γ F2 R2 φ2 H2 st2 → i < ds.length → Y i H2 v H3 → ∃ F3 d, Ex F2 F3 ∧ GR Γ F3 R2 φ2 H3 st2 ∧ ds[i]? = some d ∧ Rp Γ F3 φ2 v d
/-- a walk over ds: what is wished of it -/
def relIt : Gm → Hp → List Addr → It → List D → Prop := fun Γ F φ J ds => ∃ G Y, Walk J ds.length G Y ∧ ItOk Γ F φ ds G Y
def SimI (Γ : Gm) (Ξ : Xi) (wi : TI) (m : MI) : Prop := ∀ F R φ σ H env st, EnvR Γ Ξ.ea F φ σ env → GR Γ F R φ H st → ∀ Rk, PX relIt Γ (WE Ξ.W σ) F R φ (m env st) Rk → wi σ H Rk
section
variable {Γ : Gm} {Ξ : Xi} {F F' H : Hp} {R : Rr} {φ φ' : List Addr} {st : GS}
theorem PSr.up {r : Option SR} {D0 : Ends} (e : Ex F F') (p : φ <+: φ') (h : PSr Γ Ξ F R φ r D0) : PSr Γ Ξ F' R φ' r D0 := by
  match r, h with
  | some (.nx env st), h => exact fun G ψ σ' H' x y => h G ψ σ' H' (e.trans x) (p.trans y)
  | some (.rt d st), h => exact fun G ψ σ' H' x y => h G ψ σ' H' (e.trans x) (p.trans y)
  | some (.bk env st), h => exact fun G ψ σ' H' x y => h G ψ σ' H' (e.trans x) (p.trans y)
  | some (.ct env st), h => exact fun G ψ σ' H' x y => h G ψ σ' H' (e.trans x) (p.trans y)
  | some (.ex c fs env st), h => exact fun G ψ σ' C d H' x y => h G ψ σ' C d H' (e.trans x) (p.trans y)
theorem PSr.bn {α β : Type} {rel : Gm → Hp → List Addr → β → α → Prop} {σ : L2.St} {env : EnvD} {r : RO α} {k : α → GS → Option SR} {D0 : Ends} {Q : β → Hp → Prop} (h : PSr Γ Ξ F R φ (bnS env r k) D0) (hE : EnvR Γ Ξ.ea F φ σ env)
    (hk : ∀ a s F1 φ1 v1 H1, r = some (.ok a s) → Ex F F1 → φ <+: φ1 → GR Γ F1 R φ1 H1 s → rel Γ F1 φ1 v1 a → PSr Γ Ξ F1 R φ1 (k a s) D0 → Q v1 H1) : PX rel Γ (WE Ξ.W σ) F R φ r Q := by
  match r, h with
  | some (.ok a s), h => exact fun F1 φ1 v1 H1 x p g r1 => hk a s F1 φ1 v1 H1 rfl x p g r1 (PSr.up x p h)
  | some (.ex c fs s), h => exact fun F1 φ1 C d H1 x p g hc hd => h F1 φ1 σ C d H1 x p (hE.to x p) g hc hd
theorem PX.bq {α β γ : Type} {rel : Gm → Hp → List Addr → β → α → Prop} {E : XK} {r : RO γ} {k : γ → GS → RO α} {Q : β → Hp → Prop} (h : PX rel Γ E F R φ (bq r k) Q) : ∃ a s, r = some (.ok a s) ∧ PX rel Γ E F R φ (k a s) Q := by
  match r, h with
  | some (.ok a s), h => exact ⟨a, s, rfl, h⟩
theorem bq_of {α β : Type} {r : RO α} {k : α → GS → RO β} {b : β} {t : GS} (h : bq r k = some (.ok b t)) : ∃ a s, r = some (.ok a s) ∧ k a s = some (.ok b t) := by
  match r, h with
  | some (.ok a s), h => exact ⟨a, s, rfl, h⟩
theorem PX.is {α β : Type} {rel : Gm → Hp → List Addr → β → α → Prop} {E : XK} {r : RO α} {a : α} {s : GS} {Q : β → Hp → Prop} (e : r = some (.ok a s)) (h : ∀ F1 φ1 v1 H1, Ex F F1 → φ <+: φ1 → GR Γ F1 R φ1 H1 s → rel Γ F1 φ1 v1 a → Q v1 H1) : PX rel Γ E F R φ r Q := by
  subst e; exact h
end
def mNext : MS := fun env st => some (.nx env st)
def mSeq (a b : MS) : MS := fun env st => match a env st with
  | some (.nx e s) => b e s
  | r => r
def mDrop (a : ME) : MS := fun env st => bnS env (a env st) fun _ s => some (.nx env s)
def mRet (a : ME) : MS := fun env st => bnS env (a env st) fun d s => some (.rt d s)
def mRetN : MS := fun _ st => some (.rt (.v .non) st)
def mIfS (t : MT) (a b : MS) : MS := fun env st => bnS env (t env st) fun c s => if c = true then a env s else b env s
def mBreak : MS := fun env st => some (.bk env st)
def mCont : MS := fun env st => some (.ct env st)
def mgName (i : Nat) : MG := fun d env st => some (env.set i (some d), st)
def mgNil : MGs := fun ds env st => match ds with
  | [] => some (env, st)
  | _ => none
def mgCons (g : MG) (r : MGs) : MGs := fun ds env st => match ds with
  | d :: t => bnd (g d env st) fun e s => r t e s
  | [] => none
def mgTup (n : Nat) (g : MGs) : MG := fun d env st => match uOf d with
  | some ds => if ds.length = n then g ds env st else none
  | none => none
def mAsg (a : ME) (g : MG) : MS := fun env st => bnS env (a env st) fun d s => match g d env s with
  | some (e, s) => some (.nx e s)
  | none => none
def mPar (i j : Nat) (a : MA) : MS := fun env st => bnS env (a env st) fun ds s => match ds with
  | [x, y] => some (.nx ((env.set i (some x)).set j (some y)) s)
  | _ => none
def mPar3 (i j l : Nat) (a : MA) : MS := fun env st => bnS env (a env st) fun ds s => match ds with
  | [x, y, z] => some (.nx (((env.set i (some x)).set j (some y)).set l (some z)) s)
  | _ => none
def mLoop (g : MG) (b : MS) : List D → EnvD → GS → Option SR
  | [], env, st => some (.nx env st)
  | d :: r, env, st => match g d env st with
    | some (e, s) => match b e s with
      | some (.nx e s) => mLoop g b r e s
      | some (.ct e s) => mLoop g b r e s
      | some (.bk e s) => some (.nx e s)
      | some (.rt d s) => some (.rt d s)
      | some (.ex c fs e s) => some (.ex c fs e s)
      | none => none
    | none => none
def mFor (i : MI) (g : MG) (b : MS) : MS := fun env st => bnS env (i env st) fun ds s => mLoop g b ds env s
def mWh (t : MT) (b : MS) : Nat → MS
  | 0, _, _ => none
  | n + 1, env, st => bnS env (t env st) fun c s => if c = true then match b env s with
    | some (.nx e s) => mWh t b n e s
    | some (.ct e s) => mWh t b n e s
    | some (.bk e s) => some (.nx e s)
    | some (.rt d s) => some (.rt d s)
    | some (.ex c fs e s) => some (.ex c fs e s)
    | none => none
    else some (.nx env s)
section
variable {Γ : Gm} {Ξ : Xi} {te : TE} {me : ME} {tt : TT} {mt : MT} {tA : TA} {mA : MA} {ts tu tb : TS} {ms mu mb : MS} {g : TG} {mg : MG} {gs : TGs} {mgs : MGs} {wi : TI} {mi : MI}
theorem sim_next : SimS Γ Ξ tNext mNext := fun F R φ σ H env st hE hG D0 h => h F φ σ H (Ex.refl _) (List.prefix_refl _) hE hG
theorem sim_seq (ha : SimS Γ Ξ ts ms) (hb : SimS Γ Ξ tu mu) : SimS Γ Ξ (tSeq ts tu) (mSeq ms mu) := by
  intro F R φ σ H env st hE hG D0 h
  refine ha F R φ σ H env st hE hG _ ?_
  unfold mSeq at h
  match hr : ms env st, h with
  | some (.nx e s), h => exact fun F1 φ1 σ1 H1 x1 p1 e1 g1 => hb F1 R φ1 σ1 H1 e s e1 g1 D0 (PSr.up x1 p1 h)
  | some (.rt d s), h => exact h
  | some (.bk e s), h => exact h
  | some (.ct e s), h => exact h
  | some (.ex c fs e s), h => exact h
  | none, h => exact h.elim
theorem sim_drop (ha : SimE Γ Ξ te me) : SimS Γ Ξ (tDrop te) (mDrop me) := by
  intro F R φ σ H env st hE hG D0 h
  exact ha F R φ σ H env st hE hG _ (h.bn hE fun x s1 F1 φ1 v1 H1 _ x1 p1 g1 r1 h => h F1 φ1 σ H1 (Ex.refl _) (List.prefix_refl _) (hE.to x1 p1) g1)
theorem sim_ret (ha : SimE Γ Ξ te me) : SimS Γ Ξ (tRet te) (mRet me) := by
  intro F R φ σ H env st hE hG D0 h
  exact ha F R φ σ H env st hE hG _ (h.bn hE fun x s1 F1 φ1 v1 H1 _ x1 p1 g1 r1 h => h F1 φ1 v1 H1 (Ex.refl _) (List.prefix_refl _) r1 g1)
theorem sim_ifS (ht : SimT Γ Ξ tt mt) (ha : SimS Γ Ξ ts ms) (hb : SimS Γ Ξ tu mu) : SimS Γ Ξ (tIfS tt ts tu) (mIfS mt ms mu) := by
  intro F R φ σ H env st hE hG D0 h
  refine ht F R φ σ H env st hE hG _ (h.bn hE fun x s1 F1 φ1 v1 H1 _ x1 p1 g1 r1 h => ?_)
  have r1 : v1 = x := r1
  subst r1
  cases v1 with
  | true => exact iteT (ha F1 R φ1 σ H1 env s1 (hE.to x1 p1) g1 D0 h)
  | false => exact iteF (hb F1 R φ1 σ H1 env s1 (hE.to x1 p1) g1 D0 h)
theorem sim_gName {i : Nat} : SimG Γ Ξ (gName i) (mgName i) := fun F R φ σ H env st v d hE hG r Q h => PG.now h hG (hE.set r)
theorem sim_gNil : SimGs Γ Ξ gNil mgNil := by
  intro F R φ σ H env st vs ds hE hG r Q h
  cases r with
  | nil => exact ⟨rfl, PG.now h hG hE⟩
  | cons _ _ => exact h.no.elim
theorem sim_gCons (hg : SimG Γ Ξ g mg) (hr : SimGs Γ Ξ gs mgs) : SimGs Γ Ξ (gCons g gs) (mgCons mg mgs) := by
  intro F R φ σ H env st vs ds hE hG r Q h
  cases r with
  | nil => exact h.no.elim
  | cons r1 r2 =>
    obtain ⟨x, s1, e1, h⟩ := PG.bnd h
    exact ⟨_, _, rfl, hg F R φ σ H env st _ _ hE hG r1 _ ⟨x, s1, e1, fun F1 φ1 σ1 H1 x1 p1 g1 e2 => hr F1 R φ1 σ1 H1 x s1 _ _ e2 g1 (r2.mono (Le.of x1) p1) Q (h.up x1 p1)⟩⟩
theorem sim_gTup {n : Nat} (hg : SimGs Γ Ξ gs mgs) : SimG Γ Ξ (gTup Γ.K n gs) (mgTup n mgs) := by
  intro F R φ σ H env st v d hE hG r Q h
  unfold mgTup at h
  match hd : uOf d, h with
  | some ds, h =>
    obtain ⟨a, xs, rfl, h1, h2⟩ := r.ui hd
    obtain ⟨hl, h⟩ := PG.ifp h
    exact ⟨a, xs, rfl, hG.st' h1, by rw [h2.len]; exact hl, hg F R φ σ H env st xs ds hE hG h2 Q h⟩
  | none, h => exact h.no.elim
theorem sim_asg (ha : SimE Γ Ξ te me) (hg : SimG Γ Ξ g mg) : SimS Γ Ξ (tAsg te g) (mAsg me mg) := by
  intro F R φ σ H env st hE hG D0 h
  refine ha F R φ σ H env st hE hG _ (h.bn hE fun x s1 F1 φ1 v1 H1 _ x1 p1 g1 r1 h => ?_)
  match hm : mg x env s1, h with
  | some (e, s), h => exact hg F1 R φ1 σ H1 env s1 v1 x (hE.to x1 p1) g1 r1 _ ⟨e, s, hm, fun F2 φ2 σ2 H2 x2 p2 g2 r2 => h F2 φ2 σ2 H2 x2 p2 r2 g2⟩
  | none, h => exact h.elim
theorem sim_par {i j : Nat} (ha : SimA Γ Ξ tA mA) : SimS Γ Ξ (tPar i j tA) (mPar i j mA) := by
  intro F R φ σ H env st hE hG D0 h
  refine ha F R φ σ H env st hE hG _ (h.bn hE fun x s1 F1 φ1 v1 H1 _ x1 p1 g1 r1 h => ?_)
  split at h
  · cases r1 with
    | cons a1 r1 => cases r1 with
      | cons a2 r1 => cases r1; exact ⟨_, _, rfl, h F1 φ1 _ H1 (Ex.refl _) (List.prefix_refl _) (((hE.to x1 p1).set a1).set a2) g1⟩
  · exact h.elim
end
end Nm
set_option Elab.async false
set_option linter.all false
set_option maxRecDepth 100000
set_option maxHeartbeats 4000000
namespace Nm
open PySem PySem.Spec PyProof.Rows L2 Evl
section
variable {Γ : Gm} {Ξ : Xi} {te : TE} {me : ME} {tt : TT} {mt : MT} {tA : TA} {mA : MA} {ts tu tb : TS} {ms mu mb : MS} {g : TG} {mg : MG} {wi : TI} {mi : MI}
/-- the loop itself, whatever is walked -/
theorem for_walk (hg : SimG Γ Ξ g mg) (hb : SimS Γ Ξ tb mb) {F1 : Hp} {R : Rr} {φ1 : List Addr} {σ : L2.St} {H1 : Hp} {env : EnvD} {st : GS} {ds : List D} {J : It} {G : Hp → Prop} {Y : Nat → Hp → V → Hp → Prop} {D0 : Ends}
    (hE : EnvR Γ Ξ.ea F1 φ1 σ env) (g1 : GR Γ F1 R φ1 H1 st) (wk : Walk J ds.length G Y) (ok : ItOk Γ F1 φ1 ds G Y) (h : PSr Γ Ξ F1 R φ1 (mLoop mg mb ds env st) D0) :
    ∃ W : Nat → Nat → L2.St → Hp → Prop, (∃ m, W 0 m σ H1) ∧ ∀ i m σ H, W i m σ H → (J.stop i H ∧ D0.nx σ H) ∨ (J.go i H ∧ ∃ N : L2.St → Hp → Prop, (∀ σ' H', N σ' H' → ∃ m', m' < m ∧ W (i + 1) m' σ' H') ∧ ∀ x H', J.yld i H x H' → g x σ H' fun σ2 H2 => tb { D0 with nx := N, ct := N, bk := D0.nx } σ2 H2) := by
  refine for_it wk (fun i σ' H' => ∃ F' φ' env' st', Ex F1 F' ∧ φ1 <+: φ' ∧ EnvR Γ Ξ.ea F' φ' σ' env' ∧ GR Γ F' R φ' H' st' ∧ PSr Γ Ξ F' R φ' (mLoop mg mb (ds.drop i) env' st') D0)
    ⟨F1, φ1, env, st, Ex.refl _, List.prefix_refl _, hE, g1, h⟩ (fun i σ' H' _ ⟨F', φ', env', st', a1, a2, a3, a4, a5⟩ => ok.1 F' R φ' H' st' a1 a4) ?_ ?_
  · rintro i v σ' H' H2 hi ⟨F', φ', env', st', a1, a2, a3, a4, a5⟩ hy
    obtain ⟨F3, d, b1, b2, b3, b4⟩ := ok.2 F' R φ' H' st' i v H2 a1 a2 a4 hi hy
    have hd : ds.drop i = d :: ds.drop (i + 1) := by
      rw [List.drop_eq_getElem_cons hi]
      rw [List.getElem?_eq_getElem hi] at b3
      rw [Option.some.inj b3]
    rw [hd] at a5
    unfold mLoop at a5
    match hm : mg d env' st', a5 with
    | none, a5 => exact a5.elim
    | some (e, s2), c2 =>
      dsimp only at c2
      refine hg F3 R φ' σ' H2 env' st' v d (a3.to b1 (List.prefix_refl _)) b2 b4 _ ⟨e, s2, hm, fun F4 φ4 σ4 H4 x4 p4 g4 r4 => ?_⟩
      refine hb F4 R φ4 σ4 H4 e s2 r4 g4 _ ?_
      have up : Ex F' F4 := b1.trans x4
      match hm : mb e s2, c2 with
      | some (.nx e2 s3), c2 => exact fun F5 φ5 σ5 H5 x5 p5 r5 g5 => ⟨F5, φ5, e2, s3, (a1.trans up).trans x5, (a2.trans p4).trans p5, r5, g5, PSr.up (up.trans x5) (p4.trans p5) c2⟩
      | some (.ct e2 s3), c2 => exact fun F5 φ5 σ5 H5 x5 p5 r5 g5 => ⟨F5, φ5, e2, s3, (a1.trans up).trans x5, (a2.trans p4).trans p5, r5, g5, PSr.up (up.trans x5) (p4.trans p5) c2⟩
      | some (.bk e2 s3), c2 => exact fun F5 φ5 σ5 H5 x5 p5 r5 g5 => c2 F5 φ5 σ5 H5 (up.trans x5) (p4.trans p5) r5 g5
      | some (.rt d2 s3), c2 => exact fun F5 φ5 v5 H5 x5 p5 r5 g5 => c2 F5 φ5 v5 H5 (up.trans x5) (p4.trans p5) r5 g5
      | some (.ex c fs e2 s3), c2 => exact fun F5 φ5 σ5 C dx H5 x5 p5 r5 g5 => c2 F5 φ5 σ5 C dx H5 (up.trans x5) (p4.trans p5) r5 g5
      | none, c2 => exact c2.elim
  · rintro σ' H' ⟨F', φ', env', st', a1, a2, a3, a4, a5⟩
    rw [List.drop_length] at a5
    exact a5 F' φ' σ' H' (Ex.refl _) (List.prefix_refl _) a3 a4
theorem sim_for (hi : SimI Γ Ξ wi mi) (hg : SimG Γ Ξ g mg) (hb : SimS Γ Ξ tb mb) : SimS Γ Ξ (tFor wi g tb) (mFor mi mg mb) := by
  intro F R φ σ H env st hE hG D0 h
  exact hi F R φ σ H env st hE hG _ (h.bn hE fun ds s1 F1 φ1 J H1 _ x1 p1 g1 ⟨G, Y, wk, ok⟩ h => for_walk hg hb (hE.to x1 p1) g1 wk ok h)
theorem sim_while {n : Nat} (ht : SimT Γ Ξ tt mt) (hb : SimS Γ Ξ tb mb) : SimS Γ Ξ (tWhile tt tb) (mWh mt mb n) := by
  intro F R φ σ H env st hE hG D0 h
  refine ⟨fun m σ' H' => ∃ F' φ' env' st', Ex F F' ∧ φ <+: φ' ∧ EnvR Γ Ξ.ea F' φ' σ' env' ∧ GR Γ F' R φ' H' st' ∧ PSr Γ Ξ F' R φ' (mWh mt mb m env' st') D0, ⟨n, F, φ, env, st, Ex.refl _, List.prefix_refl _, hE, hG, h⟩, ?_⟩
  rintro m σ' H' ⟨F', φ', env', st', a1, a2, a3, a4, a5⟩
  cases m with
  | zero => exact a5.elim
  | succ m =>
    refine ht F' R φ' σ' H' env' st' a3 a4 _ (PSr.bn (k := fun c s => _) a5 a3 fun c s F1 φ1 v1 H1 _ x1 p1 g1 r1 a5 => ?_)
    have r1 : v1 = c := r1
    subst r1
    cases v1 with
    | true =>
      rw [if_pos rfl] at a5
      refine iteT ⟨_, fun σ2 H2 hW => ⟨m, Nat.lt_succ_self m, hW⟩, ?_⟩
      refine hb F1 R φ1 σ' H1 env' s (a3.to x1 p1) g1 _ ?_
      match hm : mb env' s, a5 with
      | some (.nx e2 s3), c2 => exact fun F5 φ5 σ5 H5 x5 p5 r5 g5 => ⟨F5, φ5, e2, s3, (a1.trans x1).trans x5, (a2.trans p1).trans p5, r5, g5, PSr.up x5 p5 c2⟩
      | some (.ct e2 s3), c2 => exact fun F5 φ5 σ5 H5 x5 p5 r5 g5 => ⟨F5, φ5, e2, s3, (a1.trans x1).trans x5, (a2.trans p1).trans p5, r5, g5, PSr.up x5 p5 c2⟩
      | some (.bk e2 s3), c2 => exact fun F5 φ5 σ5 H5 x5 p5 r5 g5 => c2 F5 φ5 σ5 H5 x5 p5 r5 g5
      | some (.rt d2 s3), c2 => exact fun F5 φ5 v5 H5 x5 p5 r5 g5 => c2 F5 φ5 v5 H5 x5 p5 r5 g5
      | some (.ex c fs e2 s3), c2 => exact fun F5 φ5 σ5 C dx H5 x5 p5 r5 g5 => c2 F5 φ5 σ5 C dx H5 x5 p5 r5 g5
      | none, c2 => exact c2.elim
    | false =>
      rw [if_neg Bool.false_ne_true] at a5
      exact iteF <| a5 F1 φ1 σ' H1 (Ex.refl _) (List.prefix_refl _) (a3.to x1 p1) g1
end
abbrev MF := List D → GS → RO D
def mFn (n N : Nat) (b : MS) : MF := fun ds st => if ds.length = n then match b (ds.map some ++ List.replicate (N - n) none) st with
  | some (.rt d s) => some (.ok d s)
  | some (.nx _ s) => some (.ok (.v .non) s)
  | some (.ex c fs _ s) => some (.ex c fs s)
  | _ => none else none
def spM (Γ : Gm) (m : MF) : Sp := fun vs H Q E => ∃ F R φ ds st, GR Γ F R φ H st ∧ RpAll Γ F φ vs ds ∧ PX Rp Γ E F R φ (m ds st) Q
def mCall (m : MF) (dfl : List D) (a : MA) : ME := fun env st => bn (a env st) fun ds s => m (ds ++ dfl) s
section
variable {Γ : Gm} {Ξ : Xi} {tA : TA} {mA : MA} {tb : TS} {mb : MS} {m : MF}
theorem start_env {ea : Ea} {F : Hp} {φ : List Addr} {N : List Str} {vs : List V} {ds : List D} (r : RpAll Γ F φ vs ds) : EnvR Γ ea F φ (L2.start N vs) (ds.map some ++ List.replicate (N.length - ds.length) none) := by
  unfold L2.start
  refine ⟨by rw [List.length_append, List.length_append, List.length_map, List.length_map, List.length_replicate, List.length_replicate, r.len], fun i d h => ?_⟩
  by_cases hi : i < ds.length
  · rw [List.getElem?_append_left (by rw [List.length_map]; exact hi), List.getElem?_map] at h
    obtain ⟨d', h1, h2⟩ := Option.map_eq_some_iff.mp h
    cases h2
    obtain ⟨v, h3, h4⟩ := r.get i d h1
    refine ⟨v, ?_, .inl h4⟩
    rw [List.getElem?_append_left (by rw [List.length_map, r.len]; exact hi), List.getElem?_map, h3]
    rfl
  · rw [List.getElem?_append_right (by rw [List.length_map]; omega)] at h
    have := List.mem_of_getElem? h
    rw [List.mem_replicate] at this
    cases this.2
theorem spM_len {n N : Nat} {vs : List V} {H : Hp} {Q : VK} {E : XK} (h : spM Γ (mFn n N mb) vs H Q E) : vs.length = n := by
  obtain ⟨F, R, φ, ds, st, g, r, h⟩ := h
  unfold mFn at h
  rw [r.len]
  exact h.ifp.1
/-- a def's body runs -/
theorem run_fnM {N : List Str} {n : Nat} {vs : List V} {H : Hp} {Q : VK} {E : XK} (h : spM Γ (mFn n N.length mb) vs H Q E) (hb : SimS Γ ⟨fun c d _ G => E c d G, none⟩ tb mb) : tb { nx := fun _ H' => Q .non H', rt := Q } (L2.start N vs) H := by
  obtain ⟨F, R, φ, ds, st, g, r, h⟩ := h
  unfold mFn at h
  obtain ⟨hl, h⟩ := PX.ifp h
  refine hb F R φ _ H _ st (start_env r) g _ ?_
  rw [hl]
  match hm : mb (ds.map some ++ List.replicate (N.length - n) none) st, h with
  | some (.rt d s), h => exact fun F' φ' v H' x p r g => h F' φ' v H' x p g r
  | some (.nx e s), h => exact fun F' φ' σ' H' x p r g => h F' φ' .non H' x p g (.v _)
  | some (.ex c fs e s), h => exact fun F' φ' σ' C dx H' x p r g hc hd => h F' φ' C dx H' x p g hc hd
  | some (.bk e s), h => exact h.elim
  | some (.ct e s), h => exact h.elim
  | none, h => exact h.elim
theorem sim_call {dvs : List V} (ha : SimA Γ Ξ tA mA) : SimE Γ Ξ (tCallSD (spM Γ m) dvs (WE Ξ.W) tA) (mCall m (dvs.map D.v) mA) := by
  intro F R φ σ H env st hE hG Q h
  exact ha F R φ σ H env st hE hG _ (h.bn fun ds s1 F1 φ1 vs H1 _ x1 p1 g1 r1 h => ⟨F1, R, φ1, _, s1, g1, r1.app (RpAll.vs dvs), h⟩)
/-- a def that raises nothing -/
def nrM (m : MF) : MF := fun ds st => match m ds st with
  | some (.ok d s) => some (.ok d s)
  | _ => none
theorem PX.nrM0 {E E' : XK} {F : Hp} {R : Rr} {φ : List Addr} {ds : List D} {st : GS} {Q : VK} (h : PX Rp Γ E F R φ (nrM m ds st) Q) : PX Rp Γ E' F R φ (m ds st) Q := by
  unfold nrM at h
  match hm : m ds st, h with
  | some (.ok d s), h => exact h
end
mutual
def bdD (n : Nat) : D → Bool
  | .v _ => true
  | .lst ds => bdDs n ds
  | .lsk ds => bdDs n ds
  | .tup ds => bdDs n ds
  | .tpk ds => bdDs n ds
  | .dic kvs => bdKs n kvs
  | .dit kvs => bdTs n kvs
  | .obj k => decide (k < n)
  | .ins _ fs => bdFs n fs
  | .cls _ => true
  | .exn _ fs => bdFs n fs
  | .exv _ fs => bdFs n fs
def bdDs (n : Nat) : List D → Bool
  | [] => true
  | d :: r => bdD n d && bdDs n r
def bdKs (n : Nat) : List (Key × D) → Bool
  | [] => true
  | (_, d) :: r => bdD n d && bdKs n r
def bdTs (n : Nat) : List (List Key × D) → Bool
  | [] => true
  | (_, d) :: r => bdD n d && bdTs n r
def bdFs (n : Nat) : List (Str × D) → Bool
  | [] => true
  | (_, d) :: r => bdD n d && bdFs n r
end
def bdC (n : Nat) : Cell → Bool
  | .lst ds => bdDs n ds
  | .dic kvs => bdKs n kvs
  | .ins _ fs => bdFs n fs
  | .free => true
  | .hdl ds => bdDs n ds
  | .hdd kvs => bdKs n kvs
  | .dit kvs => bdTs n kvs
def bdS (n : Nat) (st : GS) : Bool := st.all (bdC n)
theorem get_take {α : Type} {l : List α} {n k : Nat} {x : α} (h : l[k]? = some x) (hk : k < n) : (l.take n)[k]? = some x := by
  rw [List.getElem?_take_of_lt hk]; exact h
section
variable {Γ : Gm} {F : Hp} {φ : List Addr} {n : Nat}
theorem Rp.cut {v : V} {d : D} (h : Rp Γ F φ v d) : bdD n d = true → Rp Γ F (φ.take n) v d := by
  induction h using Rp.rec (motive_2 := fun xs ds _ => bdDs n ds = true → RpAll Γ F (φ.take n) xs ds) (motive_3 := fun xs ds _ => bdKs n ds = true → RpKv Γ F (φ.take n) xs ds) (motive_4 := fun xs ds _ => bdTs n ds = true → RpKt Γ F (φ.take n) xs ds) (motive_5 := fun xs ds _ => bdFs n ds = true → RpFs Γ F (φ.take n) xs ds) with
  | v x => intro _; exact .v x
  | lst h _ ih => intro b; exact .lst h (ih b)
  | lsk h _ ih => intro b; exact .lsk h (ih b)
  | tup h _ ih => intro b; exact .tup h (ih b)
  | tpk h _ ih => intro b; exact .tpk h (ih b)
  | dic h _ ih => intro b; exact .dic h (ih b)
  | dit h _ ih => intro b; exact .dit h (ih b)
  | obj h => intro b; exact .obj (get_take h (of_decide_eq_true b))
  | ins c h _ ih => intro b; exact .ins c h (ih b)
  | cls c => intro _; exact .cls c
  | exv c h1 h2 _ ih => intro b; exact .exv c h1 h2 (ih b)
  | exw c h => intro _; exact .exw c h
  | nil => exact .nil
  | cons _ _ h1 h2 => rename_i b; obtain ⟨b1, b2⟩ := Bool.and_eq_true_iff.mp b; exact .cons (h1 b1) (h2 b2)
  | kn => exact .kn
  | kc _ _ h1 h2 => rename_i b; obtain ⟨b1, b2⟩ := Bool.and_eq_true_iff.mp b; exact .kc (h1 b1) (h2 b2)
  | tn => exact .tn
  | tc _ _ h1 h2 => rename_i b; obtain ⟨b1, b2⟩ := Bool.and_eq_true_iff.mp b; exact .tc (h1 b1) (h2 b2)
  | fn => exact .fn
  | fc _ _ h1 h2 => rename_i b; obtain ⟨b1, b2⟩ := Bool.and_eq_true_iff.mp b; exact .fc (h1 b1) (h2 b2)
theorem RpAll.cutA : ∀ {xs : List V} {ds : List D}, RpAll Γ F φ xs ds → bdDs n ds = true → RpAll Γ F (φ.take n) xs ds
  | _, _, .nil, _ => .nil
  | _, _, .cons h t, b => by obtain ⟨b1, b2⟩ := Bool.and_eq_true_iff.mp b; exact .cons (h.cut b1) (t.cutA b2)
theorem RpKv.cut : ∀ {xs : List (Key × V)} {ds : List (Key × D)}, RpKv Γ F φ xs ds → bdKs n ds = true → RpKv Γ F (φ.take n) xs ds
  | _, _, .kn, _ => .kn
  | _, _, .kc h t, b => by obtain ⟨b1, b2⟩ := Bool.and_eq_true_iff.mp b; exact .kc (h.cut b1) (t.cut b2)
theorem RpKt.cut : ∀ {xs : List (List Key × V)} {ds : List (List Key × D)}, RpKt Γ F φ xs ds → bdTs n ds = true → RpKt Γ F (φ.take n) xs ds
  | _, _, .tn, _ => .tn
  | _, _, .tc h t, b => by obtain ⟨b1, b2⟩ := Bool.and_eq_true_iff.mp b; exact .tc (h.cut b1) (t.cut b2)
theorem RpFs.cut : ∀ {xs : List (Str × V)} {ds : List (Str × D)}, RpFs Γ F φ xs ds → bdFs n ds = true → RpFs Γ F (φ.take n) xs ds
  | _, _, .fn, _ => .fn
  | _, _, .fc h t, b => by obtain ⟨b1, b2⟩ := Bool.and_eq_true_iff.mp b; exact .fc (h.cut b1) (t.cut b2)
theorem CellAt.cut {H : Hp} {a : Addr} {c : Cell} (h : CellAt Γ F φ H a c) (b : bdC n c = true) : CellAt Γ F (φ.take n) H a c := by
  cases c with
  | lst ds => obtain ⟨xs, h1, h2⟩ := h; exact ⟨xs, h1, h2.cutA b⟩
  | dic ds => obtain ⟨xs, h1, h2⟩ := h; exact ⟨xs, h1, h2.cut b⟩
  | ins c fs => obtain ⟨C, dx, gs, h0, h1, h2⟩ := h; exact ⟨C, dx, gs, h0, h1, h2.cut b⟩
  | free => exact trivial
  | hdl ds => obtain ⟨xs, h1, h2⟩ := h; exact ⟨xs, h1, h2.cutA b⟩
  | hdd ds => obtain ⟨od, xs, h1, h2⟩ := h; exact ⟨od, xs, h1, h2.cut b⟩
  | dit ds => obtain ⟨xs, h1, h2⟩ := h; exact ⟨xs, h1, h2.cut b⟩
theorem GR.cut {H : Hp} {R : Rr} {st : GS} (g : GR Γ F R φ H st) (hL : ∀ a, R.l a ≠ none → a ∈ φ.take n) (b : bdS n (st.take n) = true) : GR Γ F R (φ.take n) H (st.take n) := by
  refine ⟨g.f, g.r, g.s, g.d, fun a e => ⟨(g.e a e).1, (g.e a e).2.1, hL a e⟩, g.m, by rw [List.length_take, List.length_take, g.l], g.u.sublist (List.take_sublist _ _), fun a ha => g.h a (List.mem_of_mem_take ha), fun k a c h1 h2 h3 => ?_, g.x.cut n⟩
  have hk : k < n := by
    have := (List.getElem?_eq_some_iff.mp h1).1
    rw [List.length_take] at this
    omega
  have e1 : φ[k]? = some a := by rw [← h1, List.getElem?_take_of_lt hk]
  have e2 : st[k]? = some c := by rw [← h2, List.getElem?_take_of_lt hk]
  obtain ⟨a1, a2, a3, a4⟩ := g.c k a c e1 e2 h3
  refine ⟨a1, a2, a3.cut ?_, a4⟩
  unfold bdS at b
  exact List.all_eq_true.mp b c (List.mem_of_getElem? h2)
end
/-- what has come beyond n and is of no use falls away -/
def gc (n : Nat) : RO D → RO D
  | some (.ok d s) => if (bdD n d && bdS n (s.take n)) = true then some (.ok d (s.take n)) else some (.ok d s)
  | some (.ex c fs s) => if (bdFs n fs && bdS n (s.take n)) = true then some (.ex c fs (s.take n)) else some (.ex c fs s)
  | none => none
def gcM (m : MF) : MF := fun ds st => gc st.length (m ds st)
theorem pre_take {α : Type} {l m : List α} {n : Nat} (p : l <+: m) (h : l.length = n) : m.take n = l := by
  obtain ⟨r, rfl⟩ := p
  rw [List.take_append_of_le_length (Nat.le_of_eq h.symm), ← h, List.take_length]
theorem PX.gc {Γ : Gm} {E : XK} {F : Hp} {R : Rr} {φ : List Addr} {n : Nat} {r : RO D} {Q : VK} (hl : φ.length = n) (hL : ∀ a, R.l a ≠ none → a ∈ φ) (h : PX Rp Γ E F R φ (gc n r) Q) : PX Rp Γ E F R φ r Q := by
  match r, h with
  | some (.ok d s), h =>
    unfold Nm.gc at h
    dsimp only at h
    split at h
    · rename_i b
      obtain ⟨b1, b2⟩ := Bool.and_eq_true_iff.mp b
      intro F' φ' v H' x p g r
      have e := pre_take p hl
      exact h F' φ v H' x (List.prefix_refl _) (e ▸ g.cut (by rw [e]; exact hL) b2) (e ▸ r.cut b1)
    · exact h
  | some (.ex c fs s), h =>
    unfold Nm.gc at h
    dsimp only at h
    split at h
    · rename_i b
      obtain ⟨b1, b2⟩ := Bool.and_eq_true_iff.mp b
      intro F' φ' C d H' x p g hc hd
      have e := pre_take p hl
      refine h F' φ C d H' x (List.prefix_refl _) (e ▸ g.cut (by rw [e]; exact hL) b2) hc ?_
      cases d with
      | none => exact hd
      | some a => obtain ⟨gs, h1, h2⟩ := hd; exact ⟨gs, h1, e ▸ h2.cut b1⟩
    · exact h
theorem spM_gc {Γ : Gm} {m : MF} {vs : List V} {H : Hp} {Q : VK} {E : XK} (h : spM Γ (gcM m) vs H Q E) : spM Γ m vs H Q E := by
  obtain ⟨F, R, φ, ds, st, g, r, h⟩ := h
  exact ⟨F, R, φ, ds, st, g, r, h.gc g.l fun a e => (g.e a e).2.2⟩
theorem FnOk.gc {Γ : Gm} {P : Program} {w : World} {K : Fg} {mg : Str → Option Value} {base : Heap} {CX : CXT} {k : Nat} {f : Addr} {fd : FuncData} {ps : List Str} {m : MF} (F : FnOk P w K mg base CX k f fd ps (spM Γ m)) : FnOk P w K mg base CX k f fd ps (spM Γ (gcM m)) := F.imp fun _ _ _ _ => spM_gc
end Nm
set_option Elab.async false
set_option linter.all false
set_option maxRecDepth 100000
set_option maxHeartbeats 4000000
namespace Nm
open PySem PySem.Spec PyProof.Rows L2 Evl
section
variable {Γ : Gm} {Ξ : Xi}
def mM1 (f : D → D → GS → Option (D × GS)) (a b : ME) : ME := fun env st => bn (a env st) fun x s => match sOf x with
  | some _ => bn (b env s) fun y s => lft (f x y s)
  | none => none
theorem sim_m1 {r : V → List V → Hp → VK → Prop} {f : D → D → GS → Option (D × GS)} {ta tb : TE} {ma mb : ME} (ha : SimE Γ Ξ ta ma) (hb : SimE Γ Ξ tb mb) (hr : SimR Γ (fun x y H Q => r x [y] H Q) f) : SimE Γ Ξ (tM1 r ta tb) (mM1 f ma mb) := by
  intro F R φ σ H env st hE hG Q h
  refine ha F R φ σ H env st hE hG _ (h.bn fun x s1 F1 φ1 v1 H1 _ x1 p1 g1 r1 h => ?_)
  split at h
  · rename_i z ez
    rw [sOf_eq ez] at r1
    refine ⟨⟨z, r1.vi⟩, hb F1 R φ1 σ H1 env s1 (hE.to x1 p1) g1 _ (h.bn fun y s2 F2 φ2 v2 H2 _ x2 p2 g2 r2 h => ?_)⟩
    rw [sOf_eq ez] at h
    exact hr F2 R φ2 H2 s2 v1 v2 _ y g2 (r1.mono (Le.of x2) p2) r2 Q h.pg
  · exact h.elim
def mDGet2 (a b c : ME) : ME := fun env st => bn (a env st) fun x s => match dvw s x with
  | none => none
  | some _ => bn (b env s) fun y s => bn (c env s) fun z s => match dvw s x, kOf y with
    | some ks, some k => some (.ok ((valD ks k).getD z) s)
    | _, _ => none
def rng (lo : Int) (n : Nat) : List D := (List.range n).map fun i => .v (.int (lo + (i : Nat)))
def mRng1 (a : MA) : MI := fun env st => bn (a env st) fun xs s => match xs with
  | [.v (.int n)] => if -100000 ≤ n ∧ n ≤ 100000 then some (.ok (rng 0 n.toNat) s) else none
  | _ => none
theorem itOk_fn {F : Hp} {φ : List Addr} {n : Nat} {g : Nat → V} : ItOk Γ F φ ((List.range n).map fun i => D.v (g i)) (fun _ => True) (YFn g) := by
  refine ⟨fun _ _ _ _ _ _ _ => trivial, ?_⟩
  rintro F2 R2 φ2 H2 st2 i v H3 x p g2 hi ⟨rfl, rfl⟩
  rw [List.length_map, List.length_range] at hi
  exact ⟨F2, .v (g i), Ex.refl _, g2, by rw [List.getElem?_map, List.getElem?_range hi]; rfl, .v _⟩
theorem rng_len {lo : Int} {n : Nat} : (rng lo n).length = n := by unfold rng; rw [List.length_map, List.length_range]
theorem relIt_rng {F : Hp} {φ : List Addr} {lo : Int} {n : Nat} : relIt Γ F φ (Itr lo n) (rng lo n) := ⟨_, _, by rw [rng_len]; exact walk_range, itOk_fn⟩
theorem simi_rng1 {tA : TA} {mA : MA} (ha : SimA Γ Ξ tA mA) : SimI Γ Ξ (iRng1 tA) (mRng1 mA) := by
  intro F R φ σ H env st hE hG Rk h
  refine ha F R φ σ H env st hE hG _ (h.bn fun xs s1 F1 φ1 vs H1 e0 x1 p1 g1 r1 h => ?_)
  clear e0
  split at h
  · rename_i n
    obtain ⟨hn, h⟩ := h.ifp
    cases r1 with
    | cons r1 r2 =>
      cases r2
      exact ⟨n, by rw [r1.vi], by omega, by omega, PX.now h g1 relIt_rng⟩
  · exact h.elim
end
section
variable {Γ : Gm} {F H : Hp} {R : Rr} {φ : List Addr} {st : GS}
def IsDO (u : HO) : Prop := (∃ ks, u = .dK ks) ∨ ∃ ks, u = .dT ks
theorem IsDO.no {u : HO} (h : IsDO u) : (∀ xs, u ≠ .lst xs) ∧ (∀ xs, u ≠ .tup xs) ∧ (∀ C d fs, u ≠ .ins C d fs) ∧ (∀ o w, u ≠ .frz o w) ∧ ∀ fs, u ≠ .xd fs := by
  rcases h with ⟨ks, rfl⟩ | ⟨ks, rfl⟩ <;> exact ⟨fun _ e => (nomatch e), fun _ e => (nomatch e), fun _ _ _ e => (nomatch e), fun _ _ e => (nomatch e), fun _ e => (nomatch e)⟩
theorem le_lock {a : Addr} {u : HO} {od : Obj} (h : F a = some u) (hu : IsDO u) : Le F (upd F a (.frz od u)) := by
  obtain ⟨n1, n2, n3, n4, _⟩ := hu.no
  refine ⟨fun x w n r => ?_, fun x xs e => ?_, fun x xs e => ?_, fun x C dx fs e => ?_, fun x ψ e => ?_⟩
  · by_cases hx : x = a
    · subst hx
      rcases r with r | ⟨o, r⟩
      · rw [h] at r
        cases r
        exact .inr ⟨od, upd_same⟩
      · rw [h] at r
        exact absurd (Option.some.inj r) (n4 _ _)
    · exact r.imp (fun e => (upd_ne hx).trans e) fun ⟨o, e⟩ => ⟨o, (upd_ne hx).trans e⟩
  · have hx : x ≠ a := fun z => by rw [z, h] at e; exact n1 _ (Option.some.inj e)
    exact (upd_ne hx).trans e
  · have hx : x ≠ a := fun z => by rw [z, h] at e; exact n2 _ (Option.some.inj e)
    exact (upd_ne hx).trans e
  · have hx : x ≠ a := fun z => by rw [z, h] at e; exact n3 _ _ _ (Option.some.inj e)
    exact (upd_ne hx).trans e
  · have hx : x ≠ a := fun z => by
      rw [z, h] at e
      rcases hu with ⟨ks, rfl⟩ | ⟨ks, rfl⟩ <;> cases e
    exact (upd_ne hx).trans e
theorem le_unlock {a : Addr} {u : HO} {od : Obj} (h : F a = some (.frz od u)) (hu : IsDO u) : Le F (upd F a u) := by
  refine ⟨fun x w n r => ?_, fun x xs e => ?_, fun x xs e => ?_, fun x C dx fs e => ?_, fun x ψ e => ?_⟩
  · by_cases hx : x = a
    · subst hx
      rcases r with r | ⟨o, r⟩
      · rw [h] at r
        cases r
        exact absurd rfl (n _ _)
      · rw [h] at r
        cases r
        exact .inl upd_same
    · exact r.imp (fun e => (upd_ne hx).trans e) fun ⟨o, e⟩ => ⟨o, (upd_ne hx).trans e⟩
  all_goals
    have hx : x ≠ a := fun z => by rw [z, h] at e; cases e
    exact (upd_ne hx).trans e
/-- a thing of F is another one from now on -/
theorem GR.turn (g : GR Γ F R φ H st) {a : Addr} {u w : HO} (h : F a = some u) (l : Le F (upd F a w)) (ou : okX u := by trivial) (ok : okX w := by trivial) : GR Γ (upd F a w) R φ (upd H a w) st := by
  have hR : R.r a = none := g.d a (by rw [h]; intro z; cases z)
  have hL : R.l a = none := by
    cases e : R.l a with
    | none => rfl
    | some o => rw [(g.e a (by rw [e]; intro z; cases z)).1] at h; cases h
  refine ⟨ex_both g.f, ex_upd g.r hR, ex_upd g.s hL, fun b e => ?_, fun b e => ?_, g.m, g.l, g.u, fun b hb => nn_upd (g.h b hb), fun n b c h1 h2 h3 => ?_, (g.x.up (fun u' e => by rw [g.f _ _ h] at e; cases e; exact ou) ok).addF ok.t⟩
  · by_cases hb : b = a
    · rw [hb]; exact hR
    · rw [upd_ne hb] at e; exact g.d _ e
  · have hb : b ≠ a := fun z => e (by rw [z]; exact hL)
    obtain ⟨e1, e2, e3⟩ := g.e b e
    exact ⟨(upd_ne hb).trans e1, e2, e3⟩
  · obtain ⟨a1, a2, a3, a4⟩ := g.c n b c h1 h2 h3
    have hb : b ≠ a := fun z => by rw [z, h] at a1; cases a1
    exact ⟨(upd_ne hb).trans a1, a2, a3.mono l (List.prefix_refl _) (fun o e => (upd_ne hb).trans e), a4⟩
theorem XdR.le {F F' : Hp} {x : Option Addr} {fs : List (Str × D)} {a : Addr} {u w : HO} (h : F a = some u) (nx : ∀ gs, u ≠ .xd gs) (l : Le F (upd F a w)) (q : XdR Γ F φ x fs) : XdR Γ (upd F a w) φ x fs := by
  cases x with
  | none => exact q
  | some b =>
    obtain ⟨gs, h1, h2⟩ := q
    have hb : b ≠ a := fun z => by rw [z, h] at h1; exact nx _ (Option.some.inj h1)
    exact ⟨gs, (upd_ne hb).trans h1, h2.mono l (List.prefix_refl _)⟩
theorem EnvR.le {ea : Ea} {σ : L2.St} {env : EnvD} {a : Addr} {u w : HO} (h : F a = some u) (nx : ∀ gs, u ≠ .xd gs) (l : Le F (upd F a w)) (q : EnvR Γ ea F φ σ env) : EnvR Γ ea (upd F a w) φ σ env := ⟨q.l, fun i d e => by
  obtain ⟨v, h1, h2⟩ := q.g i d e
  refine ⟨v, h1, ?_⟩
  rcases h2 with h2 | ⟨c, fs, b, C, x, e1, e2, e3, e4, e5⟩
  · exact .inl (h2.mono l (List.prefix_refl _))
  · exact .inr ⟨c, fs, b, C, x, e1, e2, e3, e4, XdR.le (F' := F) h nx l e5⟩⟩
end
def itemsOf : D → Option (List D)
  | .v (.str z) => some (sgsD z.cps.toList)
  | .lst ds => some ds
  | .lsk ds => some ds
  | .tup ds => some ds
  | .tpk ds => some ds
  | _ => none
def keysD (ks : List (Key × D)) : List D := ks.map fun kv => .v (kV kv.1)
/-- what is walked is no dict -/
def mItems (a : ME) : MI := fun env st => bn (a env st) fun x s => match itemsOf x with
  | some ds => some (.ok ds s)
  | none => none
section
variable {Γ : Gm} {Ξ : Xi}
theorem itOk_list {F : Hp} {φ : List Addr} {a : Addr} {xs : List V} {ds : List D} (h : SqL Γ.K F a xs) (r : RpAll Γ F φ xs ds) : ItOk Γ F φ ds (fun H => SqL Γ.K H a xs) (YAt xs) := by
  refine ⟨fun F2 R2 φ2 H2 st2 x g => g.sq (ex_l x h), ?_⟩
  rintro F2 R2 φ2 H2 st2 i v H3 x p g hi ⟨rfl, hv⟩
  obtain ⟨d, h1, h2⟩ := r.got i v hv
  exact ⟨F2, d, Ex.refl _, g, h1, h2.mono (Le.of x) p⟩
theorem itOk_tup {F : Hp} {φ : List Addr} {a : Addr} {xs : List V} {ds : List D} (h : SqT Γ.K F a xs) (r : RpAll Γ F φ xs ds) : ItOk Γ F φ ds (fun H => SqT Γ.K H a xs) (YAt xs) := by
  refine ⟨fun F2 R2 φ2 H2 st2 x g => g.st' (ex_t x h), ?_⟩
  rintro F2 R2 φ2 H2 st2 i v H3 x p g hi ⟨rfl, hv⟩
  obtain ⟨d, h1, h2⟩ := r.got i v hv
  exact ⟨F2, d, Ex.refl _, g, h1, h2.mono (Le.of x) p⟩
theorem itOk_str {F : Hp} {φ : List Addr} {z : Str} : ItOk Γ F φ (sgsD z.cps.toList) (fun _ => True) (fun i H v H' => H' = H ∧ ∃ c, z.cps[i]? = some c ∧ v = .str ⟨#[c]⟩) := by
  refine ⟨fun _ _ _ _ _ _ _ => trivial, ?_⟩
  rintro F2 R2 φ2 H2 st2 i v H3 x p g hi ⟨rfl, c, hc, rfl⟩
  refine ⟨F2, .v (.str ⟨#[c]⟩), Ex.refl _, g, ?_, .v _⟩
  unfold sgsD
  rw [List.getElem?_map, Array.getElem?_toList, hc]
  rfl
theorem itOk_keys {F : Hp} {φ : List Addr} {a : Addr} {od : Obj} {ks : List (Key × V)} {ds : List (Key × D)} (h : F a = some (.frz od (.dK ks))) (r : RpKv Γ F φ ks ds) :
    ItOk Γ F φ (keysD ds) (fun H => H a = some (.frz od (.dK ks))) (fun i H x H' => H' = H ∧ ∃ k v, ks[i]? = some (k, v) ∧ x = kV k) := by
  refine ⟨fun F2 R2 φ2 H2 st2 x g => g.f _ _ (x _ _ h), ?_⟩
  rintro F2 R2 φ2 H2 st2 i v H3 x p g hi ⟨rfl, k, w, hk, rfl⟩
  obtain ⟨d, h1, h2⟩ := r.get i k w hk
  exact ⟨F2, .v (kV k), Ex.refl _, g, by unfold keysD; rw [List.getElem?_map, h1]; rfl, .v _⟩
theorem sgsD_len (l : List Nat) : (sgsD l).length = l.length := by unfold sgsD; rw [List.length_map]
theorem keysD_len (ks : List (Key × D)) : (keysD ks).length = ks.length := by unfold keysD; rw [List.length_map]
theorem simi_items {te : TE} {me : ME} (ha : SimE Γ Ξ te me) : SimI Γ Ξ (iAny Γ.K te) (mItems me) := by
  intro F R φ σ H env st hE hG Rk h
  refine ha F R φ σ H env st hE hG _ (h.bn fun x s1 F1 φ1 v H1 _ x1 p1 g1 r1 h => ?_)
  split at h
  · rename_i ds e3
    match x, e3 with
    | .v (.str z), e3 =>
      cases e3
      exact .inr (.inr (.inl ⟨z, r1.vi, PX.now h g1 ⟨_, _, by rw [sgsD_len, Array.length_toList]; exact walk_str, itOk_str⟩⟩))
    | .lst ds', e3 =>
      cases e3
      obtain ⟨a, xs, rfl, h1, h2⟩ := r1.li
      exact .inl ⟨a, rfl, ⟨xs, sq_of (g1.f _ _ h1)⟩, PX.now h g1 ⟨_, _, by rw [← h2.len]; exact walk_list, itOk_list (sq_of h1) h2⟩⟩
    | .lsk ds', e3 =>
      cases e3
      obtain ⟨a, xs, rfl, h1, h2⟩ := r1.qi (d := .lsk ds) rfl
      exact .inl ⟨a, rfl, ⟨xs, g1.sq h1⟩, PX.now h g1 ⟨_, _, by rw [← h2.len]; exact walk_list, itOk_list h1 h2⟩⟩
    | .tup ds', e3 =>
      cases e3
      obtain ⟨a, xs, rfl, h1, h2⟩ := r1.ui (d := .tup ds) rfl
      exact .inr (.inl ⟨a, rfl, ⟨xs, g1.st' h1⟩, PX.now h g1 ⟨_, _, by rw [← h2.len]; exact walk_tup, itOk_tup h1 h2⟩⟩)
    | .tpk ds', e3 =>
      cases e3
      obtain ⟨a, xs, rfl, h1, h2⟩ := r1.ui (d := .tpk ds) rfl
      exact .inr (.inl ⟨a, rfl, ⟨xs, g1.st' h1⟩, PX.now h g1 ⟨_, _, by rw [← h2.len]; exact walk_tup, itOk_tup h1 h2⟩⟩)
  · exact h.elim
def nrS : Option SR → Option SR
  | some (.ex _ _ _ _) => none
  | r => r
def mForA (i : Nat) (g : MG) (b : MS) : MS := fun env st => match mVar i env st with
  | some (.ok (.dic ks) s) => nrS (mLoop g b (keysD ks) env s)
  | _ => mFor (mItems (mVar i)) g b env st
/-- .. the source is anything but a dict -/
theorem sim_forE {te : TE} {me : ME} {g : TG} {mg : MG} {tb : TS} {mb : MS} (ha : SimE Γ Ξ te me) (hg : SimG Γ Ξ g mg) (hb : SimS Γ Ξ tb mb) : SimS Γ Ξ (tLockO (tFor (iAny Γ.K te) g tb)) (mFor (mItems me) mg mb) :=
  fun F R φ σ H env st hE hG D0 h => .inl (sim_for (simi_items ha) hg hb F R φ σ H env st hE hG D0 h)
end
end Nm
set_option Elab.async false
set_option linter.all false
set_option maxRecDepth 100000
set_option maxHeartbeats 4000000
namespace Nm
open PySem PySem.Spec PyProof.Rows L2 Evl
section
variable {Γ : Gm} {F H : Hp} {R : Rr} {φ : List Addr} {st : GS}
theorem PG.cell {c : Cell} {o : HO} {Q : VK} (h : PV Γ F R φ (some (.obj st.length, st ++ [c])) Q) (g : GR Γ F R φ H st) {p : Addr} (n : H p = none) (hc : CellAt Γ F (φ ++ [p]) (upd H p o) p c) (nh : isHeld c = false := by rfl) (ok : okX o := by trivial) : Q (.ref p) (upd H p o) := by
  have g' := g.cell n hc nh ok
  have pre : φ <+: φ ++ [p] := List.prefix_append ..
  exact PG.now (h.up (Ex.refl F) pre) g' (.obj (by rw [← g.l, List.getElem?_append_right (Nat.le_refl _), Nat.sub_self]; rfl))
theorem PX.cell {c : Cell} {o : HO} {E : XK} {Q : VK} (h : PX Rp Γ E F R φ (some (.ok (.obj st.length) (st ++ [c]))) Q) (g : GR Γ F R φ H st) {p : Addr} (n : H p = none) (hc : CellAt Γ F (φ ++ [p]) (upd H p o) p c) (nh : isHeld c = false := by rfl) (ok : okX o := by trivial) : Q (.ref p) (upd H p o) :=
  (PX.pg (r := some (D.obj st.length, st ++ [c])) h).cell g n hc nh ok
end
section
variable {Γ : Gm} {Ξ : Xi} {ta tb te : TE} {ma mb me : ME} {tA : TA} {mA : MA}
def mLstC (a : MA) : ME := fun env st => bn (a env st) fun xs s => if xs.length ≤ 100000 then some (.ok (.obj s.length) (s ++ [.lst xs])) else none
theorem sim_lstC (ha : SimA Γ Ξ tA mA) : SimE Γ Ξ (tLstS tA) (mLstC mA) := by
  intro F R φ σ H env st hE hG Q h
  refine ha F R φ σ H env st hE hG _ (h.bn fun x s1 F1 φ1 v1 H1 _ x1 p1 g1 r1 h => ?_)
  obtain ⟨hl, h⟩ := h.ifp
  exact ⟨sz_of (by rw [RpAll.len r1]; exact hl), fun p n _ => h.cell g1 n ⟨v1, upd_same, RpAll.mono (Le.refl _) (List.prefix_append ..) r1⟩⟩
def mDNew : ME := fun _ st => some (.ok (.dic []) st)
theorem sim_dnew : SimE Γ Ξ tDNewK mDNew := fun F R φ σ H env st hE hG Q h p n => PX.newD h hG .kn n
def mDNewC : ME := fun _ st => some (.ok (.obj st.length) (st ++ [.dic []]))
theorem sim_dnewC : SimE Γ Ξ tDNewK mDNewC := fun F R φ σ H env st hE hG Q h p n => PX.cell h hG n ⟨[], upd_same, .kn⟩
def fDict : List D → GS → Option (D × GS) := fun xs st => match xs with
  | [x] => match dvw st x with
    | some ks => some (.dic ks, st)
    | none => none
  | _ => none
theorem simc_dict : SimC Γ (fun xs H Q => ∃ (a : Addr) (kvs : List (Key × V)), xs = [.ref a] ∧ Rd H a (.dK kvs) ∧ ∀ p, H p = none → Q (.ref p) (upd H p (.dK kvs))) fDict := by
  intro F R φ H st xs ds hG r Q h
  unfold fDict at h
  split at h
  · cases r with
    | cons r1 r2 =>
      cases r2
      split at h
      · rename_i ks e1
        obtain ⟨a, xs, rfl, h2, rr⟩ := hG.dv e1 r1
        exact ⟨a, xs, rfl, h2, fun p n => h.newD hG rr n⟩
      · exact h.no.elim
  · exact h.no.elim
/-- list(..), to be changed -/
def fListC : List D → GS → Option (D × GS) := fun xs st => match fList xs st with
  | some (.lst ds, s) => some (.obj s.length, s ++ [.lst ds])
  | _ => none
def mApp (a : ME) (r : MA) : ME := fun env st => bn (a env st) fun x s => match x with
  | .obj n => match s[n]? with
    | some (.lst _) => bn (r env s) fun ys s => match ys, s[n]? with
      | [y], some (.lst ds) => if ds.length < 100000 then some (.ok (.v .non) (s.set n (.lst (ds ++ [y])))) else none
      | _, _ => none
    | _ => none
  | _ => none
def mDPut (d k v : ME) : MS := fun env st => bnS env (v env st) fun x s => bnS env (d env s) fun y s => bnS env (k env s) fun z s => match y with
  | .obj n => match kOf z with
    | some kk => match s[n]? with
      | some (.dic ks) => if ks.length < 100000 then some (.nx env (s.set n (.dic (putD ks kk x)))) else none
      | _ => none
    | none => none
  | _ => none
theorem sim_dput {td tk tv : TE} {md mk mv : ME} (hv : SimE Γ Ξ tv mv) (hd : SimE Γ Ξ td md) (hk : SimE Γ Ξ tk mk) : SimS Γ Ξ (sDPut td tk tv) (mDPut md mk mv) := by
  intro F R φ σ H env st hE hG D0 h
  refine hv F R φ σ H env st hE hG _ (h.bn hE fun x s1 F1 φ1 v1 H1 _ x1 p1 g1 r1 h => hd F1 R φ1 σ H1 env s1 (hE.to x1 p1) g1 _ (h.bn (hE.to x1 p1) fun y s2 F2 φ2 v2 H2 _ x2 p2 g2 r2 h =>
    hk F2 R φ2 σ H2 env s2 (hE.to (x1.trans x2) (p1.trans p2)) g2 _ (h.bn (hE.to (x1.trans x2) (p1.trans p2)) fun z s3 F3 φ3 v3 H3 _ x3 p3 g3 r3 h => ?_)))
  have r2' := r2.mono (Le.of x3) p3
  split at h
  · rename_i n _
    split at h
    · rename_i kk ek
      split at h
      · rename_i ks hs
        split at h
        · rename_i hl
          rw [kOf_eq ek] at r3
          have := r3.vi
          subst this
          obtain ⟨a, vs, rfl, ha, h3, rr⟩ := g3.cellD r2' hs
          refine ⟨a, _, rfl, .inl ⟨vs, kk, h3, rfl, Evl.sz_lt (by rw [rr.len]; exact hl), rfl⟩, ?_⟩
          exact h F3 φ3 σ _ (Ex.refl _) (List.prefix_refl _) (hE.to ((x1.trans x2).trans x3) ((p1.trans p2).trans p3)) (g3.set ha hs (by intro z; cases z) ⟨_, upd_same, rr.put kk (r1.mono (Le.of (x2.trans x3)) (p2.trans p3))⟩)
        · exact h.elim
      · exact h.elim
    · exact h.elim
  · exact h.elim
/-- only ends without errors -/
def okO {α : Type} : RO α → Option (α × GS)
  | some (.ok a s) => some (a, s)
  | _ => none
theorem PX.okO {α β γ δ : Type} {rel : Gm → Hp → List Addr → β → α → Prop} {rel1 : Gm → Hp → List Addr → δ → γ → Prop} {E : XK} {F : Hp} {R : Rr} {φ : List Addr} {r : RO γ} {k : γ → GS → Option (α × GS)} {Q : β → Hp → Prop} {Q1 : δ → Hp → Prop} (h : PG rel Γ F R φ (bnd (okO r) k) Q)
    (hk : ∀ a s F1 φ1 v1 H1, Ex F F1 → φ <+: φ1 → GR Γ F1 R φ1 H1 s → rel1 Γ F1 φ1 v1 a → PG rel Γ F1 R φ1 (k a s) Q → Q1 v1 H1) : PX rel1 Γ E F R φ r Q1 := by
  obtain ⟨a, s, e, h⟩ := PG.bnd h
  match r, e with
  | some (.ok a' s'), e =>
    cases e
    exact fun F1 φ1 v1 H1 x p g r1 => hk _ _ F1 φ1 v1 H1 x p g r1 (PG.up x p h)
def mgSub (o i : ME) : MG := fun d env st => bnd (okO (o env st)) fun x s => bnd (okO (i env s)) fun y s => match x with
  | .obj n => match iOf y with
    | some k => match s[n]? with
      | some (.lst ds) => (ixN ds.length k).map fun j => (env, s.set n (.lst (ds.set j d)))
      | _ => none
    | none => none
  | _ => none
theorem RpAll.set {F : Hp} {φ : List Addr} {v : V} {d : D} (r : Rp Γ F φ v d) : ∀ {xs : List V} {ds : List D} (j : Nat), RpAll Γ F φ xs ds → RpAll Γ F φ (xs.set j v) (ds.set j d)
  | _, _, _, .nil => .nil
  | _, _, 0, .cons _ t => .cons r t
  | _, _, j + 1, .cons h t => .cons h (t.set r j)
theorem sim_gSub {to ti : TE} {mo mi : ME} (ho : SimE Γ Ξ to mo) (hi : SimE Γ Ξ ti mi) : SimG Γ Ξ (gSub to ti rSetL) (mgSub mo mi) := by
  intro F R φ σ H env st v d hE hG r Q h
  refine ho F R φ σ H env st hE hG _ (PX.okO h fun x s1 F1 φ1 v1 H1 x1 p1 g1 r1 h => hi F1 R φ1 σ H1 env s1 (hE.to x1 p1) g1 _ (PX.okO h fun y s2 F2 φ2 v2 H2 x2 p2 g2 r2 h => ?_))
  have r1' := r1.mono (Le.of x2) p2
  split at h
  · rename_i n _
    split at h
    · rename_i k ek
      split at h
      · rename_i ds hs
        cases e : ixN ds.length k with
        | none => rw [e] at h; exact h.no.elim
        | some j =>
          rw [e] at h
          rw [iOf_eq ek] at r2
          have := r2.vi
          subst this
          obtain ⟨a, xs, rfl, ha, h3, rr⟩ := g2.cellL r1' hs
          refine ⟨a, xs, k, j, rfl, rfl, h3, by rw [rr.len]; exact e, ?_⟩
          have h : PG (relEnv Ξ.ea) Γ F2 R φ2 (some (env, s2.set n (.lst (ds.set j d)))) Q := h
          exact PG.now h (g2.set ha hs (by intro z; cases z) ⟨_, upd_same, rr.set (r.mono (Le.of (x1.trans x2)) (p1.trans p2)) j⟩) (hE.to (x1.trans x2) (p1.trans p2))
      · exact h.no.elim
    · exact h.no.elim
  · exact h.no.elim
def restD : Cell → Option D
  | .lst ds => some (.lst ds)
  | .dic ks => some (.dic ks)
  | .ins c fs => some (.ins c fs)
  | _ => none
def frz (st : GS) (d : D) : Option (D × GS) := match d with
  | .obj n => match st[n]? with
    | some c => (restD c).map fun d' => (d', st.set n .free)
    | none => none
  | _ => none
theorem GR.frz {F H : Hp} {R : Rr} {φ : List Addr} {st st' : GS} {x : V} {d d' : D} (g : GR Γ F R φ H st) (r : Rp Γ F φ x d) (e : frz st d = some (d', st')) : ∃ F', Ex F F' ∧ GR Γ F' R φ H st' ∧ Rp Γ F' φ x d' := by
  unfold Nm.frz at e
  split at e
  · rename_i n
    split at e
    · rename_i c hs
      obtain ⟨d0, h1, h2⟩ := Option.map_eq_some_iff.mp e
      cases h2
      obtain ⟨a, rfl, ha⟩ := r.oi
      have nf : c ≠ .free := fun z => by rw [z] at h1; cases h1
      obtain ⟨a1, a2, a3, _⟩ := g.c n a c ha hs nf
      match c, h1, a3 with
      | .lst ds, h1, ⟨xs, b1, b2⟩ =>
        cases h1
        have x := Ex.new (o := .lst xs) a1
        exact ⟨_, x, g.rest ha hs nf b1, .lst upd_same (b2.mono (Le.of x) (List.prefix_refl _))⟩
      | .dic ds, h1, ⟨xs, b1, b2⟩ =>
        cases h1
        have x := Ex.new (o := .dK xs) a1
        exact ⟨_, x, g.rest ha hs nf b1, .dic (.inl upd_same) (b2.mono (Le.of x) (List.prefix_refl _))⟩
      | .ins c fs, h1, ⟨C, dx, gs, b0, b1, b2⟩ =>
        cases h1
        have x := Ex.new (o := .ins C dx gs) a1
        exact ⟨_, x, g.rest ha hs nf b1, .ins b0 upd_same (b2.mono (Le.of x) (List.prefix_refl _))⟩
    · cases e
  · cases e
/-- an expression whose value comes to rest -/
def mRest (a : ME) : ME := fun env st => bn (a env st) fun x s => lft (frz s x)
theorem sim_rest (ha : SimE Γ Ξ te me) : SimE Γ Ξ te (mRest me) := by
  intro F R φ σ H env st hE hG Q h
  refine ha F R φ σ H env st hE hG _ (h.bn fun x s1 F1 φ1 v1 H1 _ x1 p1 g1 r1 h => ?_)
  obtain ⟨d', st', e, h⟩ := h.pg
  obtain ⟨F2, x2, g2, r2⟩ := g1.frz r1 e
  exact h F2 φ1 v1 H1 x2 (List.prefix_refl _) g2 r2
/-- the name's list or dict comes to rest ahead of a statement -/
def mFrz (i : Nat) (m : MS) : MS := fun env st => match env[i]? with
  | some (some (.exn _ _)) => none
  | some (some d) => match frz st d with
    | some (d', s) => m (env.set i (some d')) s
    | none => none
  | _ => none
theorem sim_frz {i : Nat} {ts : TS} {ms : MS} (hs : SimS Γ Ξ ts ms) : SimS Γ Ξ ts (mFrz i ms) := by
  intro F R φ σ H env st hE hG D0 h
  unfold mFrz at h
  split at h
  · exact h.elim
  · rename_i d nd he
    split at h
    · rename_i d' s e
      obtain ⟨v, h1, h2⟩ := hE.g i d he
      rcases h2 with h2 | ⟨c, fs, a, C, x, ee, _⟩
      · obtain ⟨F2, x2, g2, r2⟩ := hG.frz h2 e
        have e2 := (hE.to x2 (List.prefix_refl _)).set (i := i) r2
        have hl := (List.getElem?_eq_some_iff.mp h1)
        have same : σ.set i (some v) = σ := by
          refine List.ext_getElem? fun j => ?_
          by_cases hj : j = i
          · subst hj; rw [List.getElem?_set_self hl.1, h1]
          · rw [List.getElem?_set_ne (Ne.symm hj)]
        rw [same] at e2
        exact hs F2 R φ σ H _ s e2 g2 D0 (PSr.up x2 (List.prefix_refl _) h)
      · subst ee; exact absurd rfl (nd _ _)
    · exact h.elim
  · exact h.elim
def mChain (f f' : D → D → GS → Option (D × GS)) (a b c : ME) : ME := fun env st => bn (a env st) fun x s => bn (b env s) fun y s => bn (lft (f x y s)) fun z s => match bOf z with
  | some true => bn (c env s) fun w s => lft (f' y w s)
  | some false => some (.ok (.v (.bl false)) s)
  | none => none
theorem sim_chain {r r' : R2} {f f' : D → D → GS → Option (D × GS)} {tc : TE} {mc : ME} (ha : SimE Γ Ξ ta ma) (hb : SimE Γ Ξ tb mb) (hc : SimE Γ Ξ tc mc) (hr : SimR Γ r f) (hr' : SimR Γ r' f') : SimE Γ Ξ (tChain r r' ta tb tc) (mChain f f' ma mb mc) := by
  intro F R φ σ H env st hE hG Q h
  refine ha F R φ σ H env st hE hG _ (h.bn fun x s1 F1 φ1 v1 H1 _ x1 p1 g1 r1 h => hb F1 R φ1 σ H1 env s1 (hE.to x1 p1) g1 _ (h.bn fun y s2 F2 φ2 v2 H2 _ x2 p2 g2 r2 h => ?_))
  refine hr F2 R φ2 H2 s2 v1 v2 x y g2 (r1.mono (Le.of x2) p2) r2 _ (PX.pg (E := WE Ξ.W σ) (h.bn fun z s3 F3 φ3 v3 H3 _ x3 p3 g3 r3 h => ?_))
  split at h
  · rename_i ez
    rw [bOf_eq ez] at r3
    refine ⟨true, r3.vi, iteT (hc F3 R φ3 σ H3 env s3 (hE.to ((x1.trans x2).trans x3) ((p1.trans p2).trans p3)) g3 _ (h.bn fun w s4 F4 φ4 v4 H4 _ x4 p4 g4 r4 h => ?_))⟩
    exact hr' F4 R φ4 H4 s4 v2 v4 y w g4 (r2.mono (Le.of (x3.trans x4)) (p3.trans p4)) r4 Q h.pg
  · rename_i ez
    rw [bOf_eq ez] at r3
    exact ⟨false, r3.vi, iteF (PX.now h g3 (.v _))⟩
  · exact h.elim
/-- x[::-1] of a text or a list -/
def mRevA (a : ME) : ME := fun env st => bn (a env st) fun x s => match x with
  | .v (.str z) => if z.length ≤ 100000 then some (.ok (.v (.str (stL z.cps.toList.reverse))) s) else none
  | x => match lvQ s x with
    | some ds => some (.ok (.lst ds.reverse) s)
    | none => none
def sOr2 (a b : TS) : TS := fun D σ H => a D σ H ∨ b D σ H
theorem ps_or {X : Cx} {st : Stmt} {a b : TS} (h1 : PS X st a) (h2 : PS X st b) : PS X st (sOr2 a b) := ⟨fun pins s σ H D I h => h.elim (fun h => h1.run pins s σ H D I h) fun h => h2.run pins s σ H D I h⟩
end
end Nm
set_option Elab.async false
set_option linter.all false
set_option maxRecDepth 100000
set_option maxHeartbeats 4000000
namespace Nm
open PySem PySem.Spec PyProof.Rows L2 Evl
/-- what a target stores, it stores in vs -/
structure OwS (g : TG) (vs : List Nat) : Prop where
  mono : ∀ v τ H Q Q', (∀ σ2 H2, Q σ2 H2 → Q' σ2 H2) → g v τ H Q → g v τ H Q'
  keep : ∀ v τ H Q, g v τ H Q → g v τ H fun σ2 H2 => (σ2.length = τ.length ∧ ∀ k : Nat, k ∉ vs → σ2[k]? = τ[k]?) ∧ Q σ2 H2
theorem ow_name {j : Nat} {vs : List Nat} (h : j ∈ vs) : OwS (gName j) vs :=
  ⟨fun _ _ _ _ _ i q => i _ _ q, fun v τ H Q q => ⟨⟨by rw [List.length_set], fun k hk => List.getElem?_set_ne (fun e : j = k => hk (by rw [← e]; exact h))⟩, q⟩⟩
theorem OwS.own {g : TG} {vs : List Nat} (h : OwS g vs) (v : V) (σ : L2.St) (H : Hp) (Q : L2.St → Hp → Prop) (q : g v (wipe σ vs) H Q) : g v (wipe σ vs) H fun σ2 H2 => wipe σ2 vs = wipe σ vs ∧ Q σ2 H2 :=
  h.mono _ _ _ _ _ (fun σ2 H2 ⟨⟨l, k⟩, q⟩ => ⟨wipe_same (by rw [l, wipe_length]) fun i hi => (k i hi).trans (wipe_out hi), q⟩) (h.keep _ _ _ _ q)
def mCol (g : MG) (t : MT) (e : ME) (env : EnvD) : List D → GS → RO (List D)
  | [], st => some (.ok [] st)
  | d :: r, st => match g d env st with
    | some (e1, s) => bq (t e1 s) fun c s => if c = true then bq (e e1 s) fun x s => bq (mCol g t e env r s) fun xs s => some (.ok (x :: xs) s) else mCol g t e env r s
    | none => none
def mLc (i : MI) (g : MG) (t : MT) (e : ME) (vs : List Nat) : ME := fun env st => bn (i env st) fun ds s => if ds.length ≤ 100000 then bq (mCol g t e (wipeD env vs) ds s) fun xs s => some (.ok (.lst xs) s) else none
/-- nothing raised is foreseen -/
abbrev Xi.no (Ξ : Xi) : Xi := ⟨fun _ _ _ _ => False, Ξ.ea⟩
section
variable {Γ : Gm} {Ξ : Xi} {te : TE} {me : ME} {tt : TT} {mt : MT} {g : TG} {mg : MG} {wi : TI} {mi : MI}
theorem rmk1 {R : Rr} {p : Addr} {o o' : HO} : (R.mk1 p o).mk1 p o' = R.mk1 p o' := by unfold Rr.mk1; dsimp only; rw [upd_upd]
theorem ex_done {F H : Hp} {R : Rr} {φ : List Addr} {st : GS} {p : Addr} {o : HO} (g : GR Γ F (R.mk1 p o) φ H st) : Ex F (upd F p o) := ex_upd (Ex.refl F) g.mkF
theorem lc_walk {vs : List Nat} (hg : SimG Γ Ξ.no g mg) (ht : SimT Γ Ξ.no tt mt) (he : SimE Γ Ξ.no te me) (ow : OwS g vs) {F1 : Hp} {R : Rr} {φ1 : List Addr} {σ : L2.St} {H1 : Hp} {env : EnvD} {s1 : GS} {ds : List D} {J : It} {G : Hp → Prop} {Y : Nat → Hp → V → Hp → Prop} {E : XK} {Q : VK} {Dl : Addr}
    (hE : EnvR Γ Ξ.ea F1 φ1 σ env) (g1 : GR Γ F1 R φ1 H1 s1) (wk : Walk J ds.length G Y) (ok : ItOk Γ F1 φ1 ds G Y) (hl : ds.length ≤ 100000) (nD : H1 Dl = none) (h : PX Rp Γ E F1 R φ1 (bq (mCol mg mt me (wipeD env vs) ds s1) fun xs s => some (.ok (.lst xs) s)) Q) :
    ∃ W : Nat → Nat → Hp → Prop, (∃ m, W 0 m (upd H1 Dl (.lst []))) ∧ ∀ i m H, W i m H → (J.stop i H ∧ Q (.ref Dl) H) ∨ (J.go i H ∧ ∃ Nx : Hp → Prop, (∀ H', Nx H' → ∃ m', m' < m ∧ W (i + 1) m' H') ∧ ∀ x H', J.yld i H x H' → g x (L2.wipe σ vs) H' fun σ2 H2 => L2.wipe σ2 vs = L2.wipe σ vs ∧ tt σ2 H2 fun b H3 =>
        if b = true then te σ2 H3 fun y H4 => ∃ acc, H4 Dl = some (.lst acc) ∧ acc.length < sizeLine ∧ Nx (upd H4 Dl (.lst (acc ++ [y]))) else Nx H3) := by
  have nR : R.r Dl = none := g1.noR nD
  have hE1 := hE.wipe vs
  refine lc_it wk (fun i H' => ∃ F' φ' st' xs acc, Ex F1 F' ∧ φ1 <+: φ' ∧ GR Γ F' (R.mk1 Dl (.lst xs)) φ' H' st' ∧ RpAll Γ F' φ' xs acc ∧ xs.length ≤ i ∧
      PX Rp Γ E F' R φ' (bq (mCol mg mt me (wipeD env vs) (ds.drop i) st') fun ys s => some (.ok (.lst (acc ++ ys)) s)) Q)
    ⟨F1, φ1, s1, [], [], Ex.refl _, List.prefix_refl _, g1.newR _ nD, .nil, Nat.zero_le _, h⟩ (fun i H' _ ⟨F', φ', st', xs, acc, a1, a2, a3, a4, a5, a6⟩ => ok.1 F' _ φ' H' st' a1 a3) ?_ ?_
  · rintro i v H' H2 hi ⟨F', φ', st', xs, acc, a1, a2, a3, a4, a5, a6⟩ hy
    obtain ⟨F3, d, b1, b2, b3, b4⟩ := ok.2 F' _ φ' H' st' i v H2 a1 a2 a3 hi hy
    have hd : ds.drop i = d :: ds.drop (i + 1) := by
      rw [List.drop_eq_getElem_cons hi]
      rw [List.getElem?_eq_getElem hi] at b3
      rw [Option.some.inj b3]
    rw [hd] at a6
    obtain ⟨ys, sz, z1, z2⟩ := PX.bq a6
    unfold mCol at z1
    match c1 : mg d (wipeD env vs) st', z1 with
    | none, z1 => cases z1
    | some (e, s2), c2 =>
      dsimp only at c2
      obtain ⟨c, s3, c3, c4⟩ := bq_of c2
      refine ow.own _ _ _ _ ?_
      refine hg F3 _ φ' _ H2 (wipeD env vs) st' v d (hE1.to (a1.trans b1) a2) b2 b4 _ ⟨e, s2, c1, fun F4 φ4 σ4 H4 x4 p4 g4 r4 => ?_⟩
      refine ht F4 _ φ4 σ4 H4 e s2 r4 g4 _ (PX.is c3 fun F5 φ5 v5 H5 x5 p5 g5 r5 => ?_)
      have r5 : v5 = c := r5
      subst r5
      cases v5 with
      | true =>
        rw [if_pos rfl] at c4
        obtain ⟨x, s6, c6, c7⟩ := bq_of c4
        obtain ⟨xs', s7, c8, c9⟩ := bq_of c7
        cases c9
        refine iteT (he F5 _ φ5 σ4 H5 e s3 (EnvR.to x5 p5 r4) g5 _ (PX.is c6 fun F6 φ6 v6 H6 x6 p6 g6 r6 => ?_))
        have up : Ex F' F6 := (b1.trans x4).trans (x5.trans x6)
        have pp : φ' <+: φ6 := (p4.trans p5).trans p6
        refine ⟨xs, g6.r _ _ upd_same, Evl.sz_lt (by omega), F6, φ6, s6, xs ++ [v6], acc ++ [x], a1.trans up, a2.trans pp, ?_, (a4.mono (Le.of up) pp).app (.cons r6 .nil), by rw [List.length_append]; show xs.length + 1 ≤ i + 1; omega, ?_⟩
        · have := g6.setR (p := Dl) (o := .lst (xs ++ [v6])) upd_same
          rw [rmk1] at this
          exact this
        · rw [c8]
          show PX Rp Γ E F6 R φ6 (some (.ok (.lst ((acc ++ [x]) ++ xs')) _)) Q
          rw [List.append_assoc]
          exact PX.up up pp z2
      | false =>
        rw [if_neg Bool.false_ne_true] at c4
        have up : Ex F' F5 := (b1.trans x4).trans x5
        have pp : φ' <+: φ5 := p4.trans p5
        refine iteF ⟨F5, φ5, s3, xs, acc, a1.trans up, a2.trans pp, g5, a4.mono (Le.of up) pp, by omega, ?_⟩
        rw [c4]
        exact PX.up up pp z2
  · rintro H' ⟨F', φ', st', xs, acc, a1, a2, a3, a4, a5, a6⟩
    rw [List.drop_length] at a6
    have a6 : PX Rp Γ E F' R φ' (some (.ok (.lst (acc ++ [])) st')) Q := a6
    rw [List.append_nil] at a6
    have e := ex_done a3
    exact PX.now (PX.up e (List.prefix_refl _) a6) (a3.done nR) (.lst upd_same (a4.mono (Le.of e) (List.prefix_refl _)))
theorem sim_lc {vs : List Nat} (hi : SimI Γ Ξ wi mi) (hg : SimG Γ Ξ.no g mg) (ht : SimT Γ Ξ.no tt mt) (he : SimE Γ Ξ.no te me) (ow : OwS g vs) : SimE Γ Ξ (tLc wi g tt te vs) (mLc mi mg mt me vs) := by
  intro F R φ σ H env st hE hG Q h
  refine hi F R φ σ H env st hE hG _ (h.bn fun ds s1 F1 φ1 J H1 _ x1 p1 g1 ⟨G, Y, wk, ok⟩ h Dl nD => ?_)
  obtain ⟨hl, h⟩ := h.ifp
  exact lc_walk hg ht he ow (hE.to x1 p1) g1 wk ok hl nD h
/-- over what a name holds, a dict too -/
def mLcA (i : Nat) (g : MG) (t : MT) (e : ME) (vs : List Nat) : ME := fun env st => match mVar i env st with
  | some (.ok (.dic ks) s) => if ks.length ≤ 100000 then bq (mCol g t e (wipeD env vs) (keysD ks) s) fun xs s => some (.ok (.lst xs) s) else none
  | _ => mLc (mItems (mVar i)) g t e vs env st
theorem mVar_at {i : Nat} {env : EnvD} {st s : GS} {d : D} (e : mVar i env st = some (.ok d s)) : env[i]? = some (some d) ∧ st = s ∧ ∀ c fs, d ≠ .exn c fs := by
  unfold mVar at e
  split at e
  · cases e
  · rename_i d' nd hd; cases e; exact ⟨hd, rfl, fun c fs z => nd c fs z⟩
  · cases e
theorem EnvR.at {ea : Ea} {F : Hp} {φ : List Addr} {σ : L2.St} {env : EnvD} {i : Nat} {d : D} (h : EnvR Γ ea F φ σ env) (e : env[i]? = some (some d)) (nd : ∀ c fs, d ≠ .exn c fs) : ∃ v, σ[i]? = some (some v) ∧ Rp Γ F φ v d := by
  obtain ⟨v, h1, h2⟩ := h.g i d e
  rcases h2 with h2 | ⟨c, fs, a, C, x, e, _⟩
  · exact ⟨v, h1, h2⟩
  · exact absurd e (nd c fs)
theorem sim_lcA {i : Nat} {vs : List Nat} (hg : SimG Γ Ξ.no g mg) (ht : SimT Γ Ξ.no tt mt) (he : SimE Γ Ξ.no te me) (ow : OwS g vs) : SimE Γ Ξ (tLockEO (tLc (iAny Γ.K (tVar i)) g tt te vs)) (mLcA i mg mt me vs) := by
  intro F R φ σ H env st hE hG Q h
  unfold mLcA at h
  split at h
  · rename_i ks s e2
    obtain ⟨ei, rfl, nd⟩ := mVar_at e2
    obtain ⟨v, hv, rv⟩ := hE.at ei nd
    obtain ⟨hl, h⟩ := h.ifp
    have hl' : (keysD ks).length ≤ 100000 := by rw [keysD_len]; exact hl
    obtain ⟨a, ws, rfl, rd, rk⟩ := rv.di
    rcases rd with hF | ⟨od, hF⟩
    · refine .inr ⟨a, .dK ws, hG.f _ _ hF, trivial, fun od => ?_⟩
      have iso : IsDO (.dK ws) := .inl ⟨_, rfl⟩
      have l := le_lock (od := od) hF iso
      have gL := hG.turn hF l
      have hFL : (upd F a (.frz od (.dK ws))) a = some (.frz od (.dK ws)) := upd_same
      refine ⟨_, hv, .inr (.inr (.inr ⟨a, od, rfl, .inl ⟨ws, upd_same, fun Dl nD => ?_⟩⟩))⟩
      refine lc_walk (E := fun _ _ _ => False) (Q := fun v H' => H' a = some (.frz od (.dK ws)) ∧ Q v (upd H' a (.dK ws))) hg ht he ow (hE.le hF (fun _ e => by cases e) l) gL (by rw [keysD_len, ← rk.len]; exact walk_keys) (itOk_keys hFL (rk.mono l (List.prefix_refl _))) hl' nD ?_
      obtain ⟨xs, s', e, h⟩ := PX.bq h
      rw [e]
      intro F' φ' v H' x p g r
      have h1 := x _ _ hFL
      refine ⟨g.f _ _ h1, h _ φ' v _ (fun b o e => ?_) p (g.turn h1 (le_unlock h1 iso)) (r.mono (le_unlock h1 iso) (List.prefix_refl _))⟩
      by_cases hb : b = a
      · subst hb; rw [hF] at e; cases e; exact upd_same
      · rw [upd_ne hb]; exact x _ _ ((upd_ne hb).trans e)
    · exact .inl ⟨_, hv, .inr (.inr (.inr ⟨a, od, rfl, .inl ⟨ws, hG.f _ _ hF, fun Dl nD => lc_walk hg ht he ow hE hG (by rw [keysD_len, ← rk.len]; exact walk_keys) (itOk_keys hF rk) hl' nD h⟩⟩))⟩
  · exact .inl (sim_lc (simi_items sim_var) hg ht he ow F R φ σ H env st hE hG Q h)
theorem sim_lcE {tl : TE} {ml : ME} {vs : List Nat} (ha : SimE Γ Ξ tl ml) (hg : SimG Γ Ξ.no g mg) (ht : SimT Γ Ξ.no tt mt) (he : SimE Γ Ξ.no te me) (ow : OwS g vs) : SimE Γ Ξ (tLockEO (tLc (iAny Γ.K tl) g tt te vs)) (mLc (mItems ml) mg mt me vs) :=
  fun F R φ σ H env st hE hG Q h => .inl (sim_lc (simi_items ha) hg ht he ow F R φ σ H env st hE hG Q h)
end
end Nm
set_option Elab.async false
set_option linter.all false
set_option maxRecDepth 100000
set_option maxHeartbeats 4000000
namespace Nm
open PySem PySem.Spec PyProof.Rows L2 Evl
def insOf (st : GS) : D → Option (Str × List (Str × D))
  | .ins c fs => some (c, fs)
  | .obj n => match st[n]? with
    | some (.ins c fs) => some (c, fs)
    | _ => none
  | _ => none
theorem GR.ins {Γ : Gm} {F H : Hp} {R : Rr} {φ : List Addr} {st : GS} (g : GR Γ F R φ H st) {x : V} {d : D} {c : Str} {fs : List (Str × D)} (e : insOf st d = some (c, fs)) (r : Rp Γ F φ x d) : ∃ a C dx gs, x = .ref a ∧ Γ.cl c = some C ∧ H a = some (.ins C dx gs) ∧ RpFs Γ F φ gs fs := by
  match d, e with
  | .ins c' fs', e =>
    cases e
    cases r with
    | ins h1 h2 h3 => exact ⟨_, _, _, _, rfl, h1, g.f _ _ h2, h3⟩
  | .obj n, e =>
    simp only [insOf] at e
    split at e
    · rename_i c' fs' hs
      cases e
      obtain ⟨a, rfl, ha⟩ := r.oi
      obtain ⟨_, _, ⟨C, dx, gs, h0, h1, h2⟩, _⟩ := g.c n a _ ha hs (by intro z; cases z)
      exact ⟨a, C, dx, gs, rfl, h0, h1, h2⟩
    · cases e
section
variable {Γ : Gm} {Ξ : Xi} {ta tb te : TE} {ma mb me : ME} {tA : TA} {mA : MA}
def fsLk (f : Str) : List (Str × D) → Option D
  | [] => none
  | (g, d) :: r => if f = g then some d else fsLk f r
def fsPut (f : Str) (v : D) : List (Str × D) → List (Str × D)
  | [] => [(f, v)]
  | (g, d) :: r => if g = f then (g, v) :: r else (g, d) :: fsPut f v r
section
variable {F : Hp} {φ : List Addr}
theorem RpFs.lk {f : Str} : ∀ {gs : List (Str × V)} {fs : List (Str × D)}, RpFs Γ F φ gs fs → (gs.lookup f = none ∧ fsLk f fs = none) ∨ ∃ v d, gs.lookup f = some v ∧ fsLk f fs = some d ∧ Rp Γ F φ v d
  | _, _, .fn => .inl ⟨rfl, rfl⟩
  | (k, x) :: gs, (_, d) :: fs, .fc r t => by
    unfold fsLk
    rw [List.lookup_cons]
    by_cases h : f = k
    · subst h
      rw [if_pos rfl, beq_self_eq_true]
      exact .inr ⟨x, d, rfl, rfl, r⟩
    · rw [if_neg h, beq_eq_false_iff_ne.mpr h]
      exact t.lk
theorem RpFs.put {f : Str} {v : V} {d : D} (r : Rp Γ F φ v d) : ∀ {gs : List (Str × V)} {fs : List (Str × D)}, RpFs Γ F φ gs fs → RpFs Γ F φ (putF f v gs) (fsPut f d fs)
  | _, _, .fn => .fc r .fn
  | (k, x) :: gs, (_, d') :: fs, .fc r' t => by
    show RpFs Γ F φ (if k = f then (k, v) :: gs else (k, x) :: putF f v gs) (if k = f then (k, d) :: fs else (k, d') :: fsPut f d fs)
    by_cases h : k = f
    · rw [if_pos h, if_pos h]; exact .fc r t
    · rw [if_neg h, if_neg h]; exact .fc r' (t.put r)
theorem RpFs.len : ∀ {gs : List (Str × V)} {fs : List (Str × D)}, RpFs Γ F φ gs fs → gs.length = fs.length
  | _, _, .fn => rfl
  | _, _, .fc _ t => by rw [List.length_cons, List.length_cons, t.len]
end
/-- classes with a field f -/
def FldOk (Γ : Gm) (cs : List Str) (f : Str) : Prop := ∀ c ∈ cs, ∀ C, Γ.cl c = some C → Cls Γ.K C ∧ NoAttr Γ.K C f
def mFld (cs : List Str) (f : Str) (a : ME) : ME := fun env st => bn (a env st) fun x s => match insOf s x with
  | some (c, fs) => if c ∈ cs then (match fsLk f fs with
    | some d => some (.ok d s)
    | none => none) else none
  | none => none
def mSFld (cs : List Str) (f : Str) (a v : ME) : MS := fun env st => bnS env (v env st) fun y s => bnS env (a env s) fun x s => match x with
  | .obj n => match s[n]? with
    | some (.ins c fs) => if c ∈ cs ∧ fs.length < 1000 then some (.nx env (s.set n (.ins c (fsPut f y fs)))) else none
    | _ => none
  | _ => none
theorem sim_sfld {cs : List Str} {f : Str} (ok : FldOk Γ cs f) (ha : SimE Γ Ξ ta ma) (hv : SimE Γ Ξ tb mb) : SimS Γ Ξ (sFld Γ.K ta tb f) (mSFld cs f ma mb) := by
  intro F R φ σ H env st hE hG D0 h
  refine hv F R φ σ H env st hE hG _ (h.bn hE fun y s1 F1 φ1 v1 H1 _ x1 p1 g1 r1 h => ha F1 R φ1 σ H1 env s1 (hE.to x1 p1) g1 _ (h.bn (hE.to x1 p1) fun x s2 F2 φ2 v2 H2 _ x2 p2 g2 r2 h => ?_))
  split at h
  · rename_i n _
    split at h
    · rename_i c fs hs
      split at h
      · rename_i hc
        obtain ⟨a, rfl, ha⟩ := r2.oi
        obtain ⟨_, _, ⟨C, dx, gs, k0, k1, k2⟩, _⟩ := g2.c n a _ ha hs (by intro z; cases z)
        obtain ⟨q1, q2⟩ := ok c hc.1 C k0
        refine ⟨a, C, dx, gs, rfl, k1, q1, q2, by rw [k2.len]; exact hc.2, ?_⟩
        exact h F2 φ2 σ _ (Ex.refl _) (List.prefix_refl _) (hE.to (x1.trans x2) (p1.trans p2)) (g2.set ha hs (by intro z; cases z) ⟨C, dx, _, k0, upd_same, k2.put (r1.mono (Le.of x2) p2)⟩)
      · exact h.elim
    · exact h.elim
  · exact h.elim
/-- a new instance, by its __init__ -/
def mMake (c : Str) (m : MF) (dfl : List D) (a : MA) : ME := fun env st => bn (a env st) fun ds s => bn (m (.obj s.length :: (ds ++ dfl)) (s ++ [.ins c []])) fun r s' => match r with
  | .v .non => some (.ok (.obj s.length) s')
  | _ => none
theorem GR.make {F H : Hp} {R : Rr} {φ : List Addr} {st : GS} (g : GR Γ F R φ H st) {c : Str} {C x dx : Addr} (hc : Γ.cl c = some C) (nx : H x = none) (nd : H dx = none) (ne : dx ≠ x) : Ex F (upd F dx (.own x)) ∧ GR Γ (upd F dx (.own x)) R (φ ++ [x]) (upd (upd H dx (.own x)) x (.ins C dx [])) (st ++ [.ins c []]) := by
  have g1 := g.new (.own x) nd
  exact ⟨Ex.new (g.noF nd), g1.cell ((upd_ne (Ne.symm ne)).trans nx) ⟨C, dx, [], hc, upd_same, .fn⟩⟩
theorem sim_make {c : Str} {C : Addr} {m : MF} {dvs : List V} (hc : Γ.cl c = some C) (ha : SimA Γ Ξ tA mA) : SimE Γ Ξ (tMakeS C (spM Γ m) dvs (WE Ξ.W) tA) (mMake c m (dvs.map D.v) mA) := by
  intro F R φ σ H env st hE hG Q h
  refine ha F R φ σ H env st hE hG _ (h.bn fun ds s1 F1 φ1 vs H1 _ x1 p1 g1 r1 h x dx nx nd ne => ?_)
  obtain ⟨e2, g2⟩ := g1.make hc nx nd ne
  have pre : φ1 <+: φ1 ++ [x] := List.prefix_append ..
  have ro : (φ1 ++ [x])[s1.length]? = some x := by rw [← g1.l, List.getElem?_append_right (Nat.le_refl _), Nat.sub_self]; rfl
  refine ⟨_, R, _, _, _, g2, .cons (.obj ro) ((RpAll.mono (Le.of e2) pre r1).app (RpAll.vs dvs)), PX.bn (PX.up e2 pre h) fun r s2 F3 φ3 v H3 _ x3 p3 g3 r3 h => ?_⟩
  split at h
  · exact ⟨r3.vi, PX.now (d := D.obj s1.length) h g3 (.obj (pre_get p3 ro))⟩
  · exact h.elim
/-- a property: it raises nothing -/
def mProp (c : Str) (m : MF) (a : ME) : ME := fun env st => bn (a env st) fun x s => match insOf s x with
  | some (c', _) => if c' = c then nrM m [x] s else none
  | none => none
/-- an instance called -/
def mCallO (c : Str) (m : MF) (f : ME) (a : MA) : ME := fun env st => bn (f env st) fun x s => match insOf s x with
  | none => none
  | some _ => bn (a env s) fun ds s => match insOf s x with
    | some (c', _) => if c' = c then m (x :: ds) s else none
    | none => none
def pairD (xs ys : List D) : List D := List.zipWith (fun x y => D.tup [x, y]) xs ys
def enumD (ds : List D) : List D := pairD ((List.range ds.length).map fun i => .v (.int (i : Nat))) ds
def lvZ : D → Option (List D)
  | .lst ds => some ds
  | .lsk ds => some ds
  | _ => none
def mEnum (a : MA) : MI := fun env st => bn (a env st) fun xs s => match xs with
  | [.v (.str z)] => some (.ok (enumD (sgsD z.cps.toList)) s)
  | [x] => match lvZ x with
    | some ds => some (.ok (enumD ds) s)
    | none => none
  | _ => none
end
end Nm
set_option Elab.async false
set_option linter.all false
set_option maxRecDepth 100000
set_option maxHeartbeats 4000000
namespace Nm
open PySem PySem.Spec PyProof.Rows L2
/-- what stands above an own error -/
inductive Eb where
  | value | type | key | lookup | index | overflow | runtime
  deriving DecidableEq
/-- the built-in classes above it -/
def Eb.up : Eb → List Value
  | .value => [.type "ValueError", .type "Exception", .type "BaseException", .type "object"]
  | .type => [.type "TypeError", .type "Exception", .type "BaseException", .type "object"]
  | .key => [.type "KeyError", .type "LookupError", .type "Exception", .type "BaseException", .type "object"]
  | .lookup => [.type "LookupError", .type "Exception", .type "BaseException", .type "object"]
  | .index => [.type "IndexError", .type "LookupError", .type "Exception", .type "BaseException", .type "object"]
  | .overflow => [.type "OverflowError", .type "ArithmeticError", .type "Exception", .type "BaseException", .type "object"]
  | .runtime => [.type "RuntimeError", .type "Exception", .type "BaseException", .type "object"]
/-- whose __new__ makes it -/
def Eb.by_ : Eb → String
  | .value => "ValueError" | .type => "TypeError" | .key => "LookupError" | .lookup => "LookupError" | .index => "IndexError" | .overflow => "OverflowError" | .runtime => "RuntimeError"
def Eb.nw : Eb → String
  | .value => "ValueError.__new__" | .type => "TypeError.__new__" | .key => "LookupError.__new__" | .lookup => "LookupError.__new__" | .index => "IndexError.__new__" | .overflow => "OverflowError.__new__" | .runtime => "RuntimeError.__new__"
theorem Eb.facts (b : Eb) : ∃ i l, ExcBaseFacts b.by_ b.nw i l := by
  cases b
  · exact ⟨_, _, F.excBase_ValueError⟩
  · exact ⟨_, _, F.excBase_TypeError⟩
  · exact ⟨_, _, F.excBase_LookupError⟩
  · exact ⟨_, _, F.excBase_LookupError⟩
  · exact ⟨_, _, F.excBase_IndexError⟩
  · exact ⟨_, _, F.excBase_OverflowError⟩
  · exact ⟨_, _, F.excBase_RuntimeError⟩
theorem Eb.has (b : Eb) : b.up.contains (.type b.by_) = true ∧ b.up.contains (.type "AttributeError") = false ∧ b.up.contains (.type "NameError") = false ∧ b.up.contains (.type "object") = true ∧ b.up.isEmpty = false := by
  cases b <;> decide +kernel
theorem Eb.pass (b : Eb) (x : Value) : refuseLoop x "__setattr__" b.up = pure () := by
  cases b
  · exact F.store_ValueError.passes x
  · exact F.store_TypeError.passes x
  · kernel_rfl
  · exact F.store_LookupError.passes x
  · exact F.store_IndexError.passes x
  · exact F.store_OverflowError.passes x
  · exact F.store_RuntimeError.passes x
/-- straight over it -/
structure ErC (K : Fg) (nm : Str) (b : Eb) (C : Addr) : Prop where
  cls : ∃ q N bs sn sub ab col dd k0 k1 k2 k3 k5, K.lookup C = some (excClassObj nm q C N bs b.up true sn sub ab col dd k0 k1 k2 k3 k5 b.nw)
  sa : PySem.W.findIn K (.ref C) "__setattr__" = some (some (.builtin "object.__setattr__"))
  be : PySem.W.subIn K (.ref C) (.type "BaseException") = some true
  ty : PySem.W.typeIn K (.ref C) = some (.type "type")
  kp : PySem.W.keepIn K (.ref C) = true
section
open HandSPX Builtin Builtin.ObjectAttr
variable {P : Program} {w : World} {M : Model} {A : Around} {E : Value → Shared → Prop} {h : Heap} {g : Array GenState} {d : Drawn} {t : Nat} {os : OsState} {R : Result → Shared → Prop}
variable {b : Eb} {nm q : Str} {C N : Addr} {bs : List Value} {sn : List Str} {sub : List Value} {ab : Bool} {col : Option Bool} {dd : Option Addr} {k0 k1 k2 k3 k5 : Option Value}
theorem er_check {more : List Value} {Q : Unit → Shared → Prop} (hC : h.get? C = some (excClassObj nm q C N bs b.up true sn sub ab col dd k0 k1 k2 k3 k5 b.nw)) (hq : Q () ⟨h, g, d, t, os⟩) :
    wpAny M A (checkBuiltinCall b.nw ⟨.ref C :: more, []⟩) Q E ⟨h, g, d, t, os⟩ := by
  obtain ⟨i, l, F⟩ := b.facts
  have z : (Value.ref C :: b.up).contains (.type b.by_) = true := by (rw [List.contains_cons, b.has.1, Bool.or_true])
  have noStar := F.noStar
  simp only [checkBuiltinCall, F.newKind, F.newSplit, F.newRow]
  repeat (first | refine wpAny_loadPart_at hC ?_ | (refine wpAny_isSubtype_exc hC ?_; rw [z]) | refine wpAny_staticBase_exc hC ?_ | refine wpAny_madeBy_exc hC ?_ | (simp only [bne_self_eq_false, Bool.false_eq_true, if_false]) | wp_step)
  exact hq
theorem er_new {more : List Value} (hC : h.get? C = some (excClassObj nm q C N bs b.up true sn sub ab col dd k0 k1 k2 k3 k5 b.nw))
    (hq : R (.ok (.ret (.ref (h.objs.size + 1)))) ⟨(h.push { cls := .type "tuple", data := .seq more.toArray }).push { cls := .ref C, data := .fields #[.ref h.objs.size, .none, .none, .none, .bool false, .none] }, g, d, t, os⟩) (few : more.length ≤ sizeLine) :
    codeAny (model P w) A (.builtin b.nw ⟨.ref C :: more, []⟩) R ⟨h, g, d, t, os⟩ := by
  obtain ⟨i, l, F⟩ := b.facts
  have ends := F.ends
  have zB : (Value.ref C :: b.up).contains (.type b.by_) = true := by (rw [List.contains_cons, b.has.1, Bool.or_true])
  have zA : (Value.ref C :: b.up).contains (.type "AttributeError") = false := by (rw [List.contains_cons, b.has.2.1]; rfl)
  have zN : (Value.ref C :: b.up).contains (.type "NameError") = false := by (rw [List.contains_cons, b.has.2.2.1]; rfl)
  apply codeAny_builtinAt F.entry
  unfold Builtin.«BaseException.__new__»
  apply PySem.wpAt_bind
  show PySem.wpAt _ _ _ (stack >>= _) _ _ _
  refine PySem.wpAt_bind (PySem.wpAt_stack fun p below => wpAt_of_wpAny ?_)
  wp_walk
  apply wpAt_of_wpAny
  rw [F.owner]
  repeat (first | with_reducible refine wpAny_madeHere_exc F.canon hC ?_ | with_reducible refine wpAny_loadPart_at hC ?_ | (with_reducible refine wpAny_isSubtype_exc hC ?_; (first | rw [zB] | rw [zA] | rw [zN])) | wp_step)
  show R _ _
  rw [Heap.size_push]
  exact hq
theorem er_type {more : List Value} {fI : Addr} {Q : Fin → Shared → Prop} (hC : h.get? C = some (excClassObj nm q C N bs b.up true sn sub ab col dd k0 k1 k2 k3 k5 b.nw))
    (hi : W.Looks (model P w) h (typeLookup (.ref C) "__init__") (some (.ref fI))) (hb : ∀ x, W.Looks (model P w) h (bindSpecial (.ref fI) x) (.ref fI, [x])) (few : more.length ≤ sizeLine)
    (hq : codeAny (model P w) A (.call (.ref fI) ⟨.ref (h.objs.size + 1) :: more, []⟩) (fun r s' => match r with | .ok (.ret v) => v = .none ∧ Q (.done (.ret (.ref (h.objs.size + 1)))) s' | .ok _ => False | .error e => E e s')
      ⟨(h.push (W.kdv_tup more)).push (excO C h.objs.size), g, d, t, os⟩) : wpAny (model P w) A (Builtin.«type.__call__» ⟨.ref C :: more, []⟩) Q E ⟨h, g, d, t, os⟩ := by
  obtain ⟨i, l, F⟩ := b.facts
  repeat (first | with_reducible refine wpAny_loadPart_at hC ?_ | with_reducible refine wpAny_madeBy_exc hC ?_ | wp_step)
  apply codeAny_call_builtin_code (Code.quiet_builtin _ F.quiet) (er_check hC _)
  refine er_new hC ?_ few
  show wpAny _ _ _ _ _ _
  have up : ∀ x o, h.get? x = some o → ((h.push (W.kdv_tup more)).push (excO C h.objs.size)).get? x = some o := fun x o e => Heap.get?_push_of_some _ (Heap.get?_push_of_some _ e)
  have hC1 := up _ _ hC
  have at_ : ((h.push (W.kdv_tup more)).push (excO C h.objs.size)).get? (h.objs.size + 1) = some (excO C h.objs.size) := by (heap_get)
  have self : (Value.ref C :: b.up).contains (.ref C) = true := by (simp)
  have i1 := hi.keeps up
  have b1 := (hb (.ref (h.objs.size + 1))).keeps up
  unfold isInstance
  repeat (first | with_reducible refine wpAny_loadPart_at at_ ?_ | (with_reducible refine wpAny_isSubtype_exc hC1 ?_; rw [self]) | wp_step)
  show wpAny _ _ (typeLookup (.ref C) _) _ _ _
  apply i1.at
  apply wpAny_holding (wpAny_bind (b1.at _))
  apply wpAny_bind (wpAny_call (codeAny_mono hq _))
  rintro (e | (v | _ | _ | _)) s' z <;> first | exact z | exact z.elim | skip
  obtain ⟨rfl, z⟩ := z
  first | exact wpAny_pure (wpAny_pure z) | (wp_walk; exact z)
theorem er_call {more : List Value} {fI : Addr} (hC : h.get? C = some (excClassObj nm q C N bs b.up true sn sub ab col dd k0 k1 k2 k3 k5 b.nw))
    (hi : W.Looks (model P w) h (typeLookup (.ref C) "__init__") (some (.ref fI))) (hb : ∀ x, W.Looks (model P w) h (bindSpecial (.ref fI) x) (.ref fI, [x])) (few : more.length ≤ sizeLine)
    (hq : codeAny (model P w) (A.under (.builtin "type.__call__" ⟨.ref C :: more, []⟩)) (.call (.ref fI) ⟨.ref (h.objs.size + 1) :: more, []⟩) (W.InitBack (h.objs.size + 1) R) ⟨(h.push (W.kdv_tup more)).push (excO C h.objs.size), g, d, t, os⟩) :
    codeAny (model P w) A (.call (.ref C) ⟨more, []⟩) R ⟨h, g, d, t, os⟩ := by
  have f1 := tc_lookup
  have f2 := tc_bind (.ref C)
  have ht : (⟨h, g, d, t, os⟩ : Shared).TypeIs (.ref C) "type" := ⟨_, hC, rfl⟩
  apply codeAny_of_tree
  show wpAny _ _ (callAny (.ref C) _) _ _ _
  repeat (any_goals (first | assumption | with_reducible refine wpAny_loadPart_at hC ?_ | wp_step))
  refine ⟨rfl, codeAny_call_builtin_at (Code.quiet_builtin _ (by decide +kernel)) entry_typeCall (wpAny_check_type_call_sub hC (er_type hC hi hb few ?_))⟩
  apply codeAny_mono hq
  rintro (e | (v | _ | _ | _)) s' z <;> exact z
theorem Eb.passC (b : Eb) (x : Value) (C : Addr) : refuseLoop x "__setattr__" (.ref C :: b.up) = pure () := (refuseLoop_ref x _ C b.up).trans (b.pass x)
/-- what comes ahead of the own dict -/
theorem er_open {K : Fg} {f : Str} {tk : Tok} {v : Value} {x : Addr} {ox : Obj} {cd : ClassData} {od : Option Obj} (X : K.In h) (I : W.InstAt h x ox C od) (hcd : W.clsIn K C = some cd) (hm : cd.mro = .ref C :: b.up) (ha : W.findIn K (.ref C) f = some none)
    (go : wpAny (model P w) A.in1 (storeInOwnDict (.ref x) (.ref C) (.str f tk) f v false) (fun fin s' => match fin with | .done fl => R (.ok fl) s' | .again c => c.quiet = true ∧ codeAny (model P w) A c R s') (fun e s' => R (.error e) s') ⟨h, g, d, t, os⟩) :
    codeAny (model P w) A (.call (.builtin "object.__setattr__") ⟨[.ref x, .str f tk, v], []⟩) R ⟨h, g, d, t, os⟩ := by
  have SF := F.store_object
  have ob : cd.mro.contains (.type "object") = true := by (rw [hm, List.contains_cons, b.has.2.2.2.1, Bool.or_true])
  have ne : cd.mro.isEmpty = false := by (rw [hm]; rfl)
  have is : W.Looks (model P w) h (isInstance (.ref x) (.type "object")) true := I.type.andThen (W.looks_mroIn X (by unfold W.mroIn; rw [hcd, Option.bind_some, if_neg (by rw [ne]; decide), ob]))
  refine codeAny_call_builtin SF.slot.plain SF.entry ?_
  refine @W.check_slot (model P w) _ _ ⟨h, g, d, t, os⟩ "object.__setattr__" "object" "__setattr__" (.ref x) [.str f tk, v] [] _ SF.kind SF.split is (SF.args (.ref x) (.str f tk) v) ?_
  have lm : W.Looks (model P w) h (mroOf (.ref C)) cd.mro := (W.looks_clsIn X hcd).andThen .now
  have lt : W.Looks (model P w) h (storeTaker? none) none := .now
  rw [W.osa_eq, refuse_eq]
  refine wpAny_bind (wpAny_bind (I.type.at (wpAny_bind (lm.at ?_))))
  rw [hm, b.passC]
  refine wpAny_pure (wpAny_bind (I.type.at (wpAny_bind ((W.looks_findIn X ha).at (wpAny_bind (lt.at ?_))))))
  exact go
/-- the first field: the dict is laid -/
theorem er_osa0 {K : Fg} {f : Str} {tk : Tok} {v : Value} {x : Addr} {fv : Array Value} {cd : ClassData} (X : K.In h) (hx : h.get? x = some { cls := .ref C, data := .fields fv }) (hcd : W.clsIn K C = some cd) (hm : cd.mro = .ref C :: b.up) (hh : cd.hasDict = true)
    (ha : W.findIn K (.ref C) f = some none) (hq : ∀ h' tk' dx, (∀ y o, y ≠ x → h.get? y = some o → h'.get? y = some o) → h.objs.size ≤ dx → dx ≠ x → h'.get? x = some { cls := .ref C, dict := some dx, data := .fields fv } →
      h'.Ns1 dx (fun y => if y = f then some v else none) → R (.ok (.ret .none)) ⟨h', g, d, tk', os⟩) : codeAny (model P w) A (.call (.builtin "object.__setattr__") ⟨[.ref x, .str f tk, v], []⟩) R ⟨h, g, d, t, os⟩ := by
  have nx : x ≠ h.objs.size := Nat.ne_of_lt (Heap.lt_size hx)
  refine er_open (b := b) X (od := none) ⟨hx, rfl, rfl, trivial⟩ hcd hm ha ?_
  have lc : W.Looks (model P w) h (classData C) cd := W.looks_clsIn X hcd
  obtain ⟨nm, bs, mro, ns, qn, hd, sn, sb, ab, col, del⟩ := cd
  dsimp only at hh
  subst hh
  unfold storeInOwnDict ownDictForStores
  repeat (first | with_reducible refine store_in_new ?_ ?_ | with_reducible refine wpAny_loadPart_at hx ?_ | with_reducible refine lc.at ?_ | wp_step)
  · exact ⟨_, #[], _, (Heap.get?_update_ne _ _ _ _ nx.symm).trans (Heap.get?_push_at rfl rfl), rfl, (fun e he => absurd he (by simp)), fun _ => rfl⟩
  · intro h' tk' hn hs
    have hx1 : (h.push { cls := .type "dict", data := .dict #[] }).get? x = some { cls := .ref C, data := .fields fv } := Heap.get?_push_of_some _ hx
    refine hq h' tk' h.objs.size (fun y o hy ho => ?_) (Nat.le_refl _) nx.symm ?_ hn
    · exact (hs.2 y (Nat.ne_of_lt (Heap.lt_size ho))).trans ((Heap.get?_update_ne _ _ _ _ hy).trans (Heap.get?_push_of_some _ ho))
    · exact (hs.2 x nx).trans (Heap.get?_update_self _ hx1 rfl)
/-- a further field -/
theorem er_osa1 {K : Fg} {f : Str} {tk : Tok} {v : Value} {x dx : Addr} {fv : Array Value} {cd : ClassData} {m0 : Str → Option Value} {nl : List Str} (X : K.In h) (hx : h.get? x = some { cls := .ref C, dict := some dx, data := .fields fv }) (hns : h.Ns1 dx m0) (hw : Within m0 nl) (few : nl.length ≤ 1000)
    (hcd : W.clsIn K C = some cd) (hm : cd.mro = .ref C :: b.up) (hh : cd.hasDict = true) (ha : W.findIn K (.ref C) f = some none)
    (hq : ∀ h' tk', (∀ y o, y ≠ dx → h.get? y = some o → h'.get? y = some o) → h'.Ns1 dx (fun y => if y = f then some v else m0 y) → R (.ok (.ret .none)) ⟨h', g, d, tk', os⟩) :
    codeAny (model P w) A (.call (.builtin "object.__setattr__") ⟨[.ref x, .str f tk, v], []⟩) R ⟨h, g, d, t, os⟩ := by
  obtain ⟨oD, es, ep, ho, hd0, _⟩ := hns.count hw
  refine er_open (b := b) X (od := some oD) ⟨hx, rfl, rfl, ho⟩ hcd hm ha ?_
  have lc : W.Looks (model P w) h (classData C) cd := W.looks_clsIn X hcd
  obtain ⟨nm, bs, mro, ns, qn, hd, sn, sb, ab, col, del⟩ := cd
  dsimp only at hh
  subst hh
  unfold storeInOwnDict ownDictForStores
  repeat (first | with_reducible refine OEX.store_in_old hns hw few ?_ | with_reducible refine wpAny_loadPart_at hx ?_ | with_reducible refine lc.at ?_ | wp_step)
  exact fun h' tk' hn hs => hq h' tk' (fun y o hy ho => (hs.2 y hy).trans ho) hn
end
section
variable {X : Cx} {pins : List (Addr × Obj)} {σ : L2.St} {H : Hp} {s : Shared} {a C dx : Addr} {b : Eb} {nm f : Str} {y : V} {u : Value} {fs : List (Str × V)} {Q : Unit → Shared → Prop} {E : Value → Shared → Prop} {A : Around}
theorem ErC.data {K : Fg} {nm : Str} (T : ErC K nm b C) : ∃ cd, PySem.W.clsIn K C = some cd ∧ cd.mro = .ref C :: b.up ∧ cd.hasDict = true := by
  obtain ⟨q, N, bs, sn, sub, ab, col, dd, k0, k1, k2, k3, k5, h⟩ := T.cls
  exact ⟨_, by unfold PySem.W.clsIn; rw [h] <;> rfl, rfl, rfl⟩
theorem er_first (T : ErC X.K nm b C) (I : Inv X pins σ H s) (e : H a = some (exo a C none)) (no : PySem.W.findIn X.K (.ref C) f = some none) (ry : RelV y u)
    (h : ∀ dx s', H dx = none → dx ≠ a → Inv X pins σ (upd (upd H dx (exd dx [(f, y)])) a (exo a C (some dx))) s' → Q () s') : wpAny (model X.prog X.w) A (setAttr (.ref a) f u) Q E s := by
  obtain ⟨cd, hc, hm, hh⟩ := T.data
  obtain ⟨t1, ho⟩ := exo_at I.hok e
  obtain ⟨hp, g, d, t, os⟩ := s
  refine PySem.W.set_plain I.kIn (od := none) ⟨ho, rfl, rfl, trivial⟩ T.sa (er_osa0 (b := b) I.kIn ho hc hm hh no fun h' tk' dx k dn dne hx hn => ?_)
  have fresh : H dx = none := I.hok.fresh dn
  have nd : ∀ {x : Addr} {o : Obj}, hp.get? x = some o → x ≠ dx := fun q => Nat.ne_of_lt (Nat.lt_of_lt_of_le (Heap.lt_size q) dn)
  have na : ∀ {x : Addr}, H x = none → x ≠ a := fun {x} n z => by (rw [z, e] at n; cases n)
  have U : Un X.fs [] H (upd (upd H dx (exd dx [(f, y)])) a (exo a C (some dx))) hp h' :=
    ⟨fun x o q n _ _ => k x o (na n) q, fun x o q n _ _ => ⟨o.slots, k x o (na n) q⟩, (fun x o q n _ => by (rw [upd_ne (na n), upd_ne (nd q)]; exact n)),
      (fun x o q _ => if hx' : x = a then ⟨_, hx' ▸ hx⟩ else ⟨o, k x o hx' q⟩), (fun x xs q => by (rw [upd_ne (at_ne e q exo_tup), upd_ne (ne_of_none q fresh)]; exact q)), (fun x o v q => by (rw [upd_ne (at_ne e q exo_frz), upd_ne (ne_of_none q fresh)]; exact q)),
      fun x ps q => ⟨#[], by (rw [upd_ne (at_ne e q exo_tbl), upd_ne (ne_of_none q fresh), q]; simp)⟩⟩
  refine h dx _ fresh dne (I.un (t' := tk') U fun x o q => ?_)
  by_cases hxa : x = a
  · subst hxa
    rw [upd_same] at q
    cases q
    exact exo_ok hx
  rw [upd_ne hxa] at q
  by_cases hxd : x = dx
  · subst hxd
    rw [upd_same] at q
    cases q
    exact exd_ok hn (relO_put (fs := []) ry fun _ => True.intro)
  rw [upd_ne hxd] at q
  refine (I.hok x o q).stay (fun c v hc z => k c v ?_ z) (fun c hc => by (rw [upd_ne (at_ne e hc exo_own), upd_ne (ne_of_none hc fresh)]; exact hc)) fun c xs hc => by (rw [upd_ne (at_ne e hc exo_tup), upd_ne (ne_of_none hc fresh)]; exact hc)
  exact hc.elim (fun hc => hc ▸ hxa) fun hc => at_ne e hc exo_own
theorem er_more (T : ErC X.K nm b C) (I : Inv X pins σ H s) (e : H a = some (exo a C (some dx))) (ed : H dx = some (exd dx fs)) (few : fs.length ≤ 900) (no : PySem.W.findIn X.K (.ref C) f = some none) (ry : RelV y u)
    (h : ∀ s', Inv X pins σ (upd H dx (exd dx ((f, y) :: fs))) s' → Q () s') : wpAny (model X.prog X.w) A (setAttr (.ref a) f u) Q E s := by
  obtain ⟨cd, hc, hm, hh⟩ := T.data
  obtain ⟨t1, ho⟩ := exo_at I.hok e
  obtain ⟨mA, hns, rel⟩ := exd_at I.hok ed
  have hw := within_of rel
  obtain ⟨hp, g, d, t, os⟩ := s
  obtain ⟨oD, _, _, hoD, _, _⟩ := hns.count hw
  refine PySem.W.set_plain I.kIn (od := some oD) ⟨ho, rfl, rfl, hoD⟩ T.sa (er_osa1 (b := b) I.kIn ho hns hw (by (rw [List.length_map]; omega)) hc hm hh no fun h' tk' k hn => ?_)
  have hd : ∃ o, h'.get? dx = some o := hn.elim fun o z => z.elim fun _ z => z.elim fun _ z => ⟨o, z.1⟩
  exact h _ (I.write (t' := tk') (x := dx) (e := dx) (o := exd dx ((f, y) :: fs)) (by (rw [ed]; exact True.intro)) (.inl rfl) k hd (exd_ok hn (relO_put ry rel)))
end
/-- what an own error is caught by -/
theorem Eb.noRef (b : Eb) (C : Addr) : b.up.contains (.ref C) = false := by cases b <;> rfl
theorem ErC.name {K : Fg} {n1 n2 : Str} {b1 b2 : Eb} {C : Addr} (T1 : ErC K n1 b1 C) (T2 : ErC K n2 b2 C) : n1 = n2 := by
  obtain ⟨q, N, bs, sn, sub, ab, col, dd, k0, k1, k2, k3, k5, h⟩ := T1.cls
  obtain ⟨q', N', bs', sn', sub', ab', col', dd', k0', k1', k2', k3', k5', h'⟩ := T2.cls
  rw [h] at h'
  have e := congrArg Obj.data (Option.some.inj h')
  injection e with e
  injection e
theorem exm_two {K : Fg} {n1 n2 : Str} {b1 b2 : Eb} {C1 C2 : Addr} (T1 : ErC K n1 b1 C1) (T2 : ErC K n2 b2 C2) : PySem.W.exmOne K (.ref C1) (.ref C2) = some (decide (C2 = C1)) := by
  obtain ⟨cd2, c2, _⟩ := T2.data
  obtain ⟨cd1, c1, m1, _⟩ := T1.data
  have e1 : (PySem.W.subIn K (.ref C2) (.type "BaseException") == some true) = true := by rw [T2.be] <;> rfl
  have e2 : ((PySem.W.clsIn K C2).isSome && PySem.W.typeIn K (.ref C2) == some (.type "type")) = true := by rw [c2, T2.ty] <;> rfl
  have e3 : PySem.W.subIn K (.ref C1) (.ref C2) = some (decide (C2 = C1)) := by
    show PySem.W.mroIn K C1 (.ref C2) = _
    unfold PySem.W.mroIn
    rw [c1, Option.bind_some, m1, if_neg (fun z => nomatch z), List.contains_cons, b1.noRef, Bool.or_false]
    congr 1
    by_cases h : C2 = C1
    · subst h; rw [decide_eq_true rfl]; exact beq_self_eq_true _
    · rw [decide_eq_false h]; exact beq_eq_false_iff_ne.mpr fun z => h (by injection z)
  show (if (PySem.W.subIn K (.ref C2) (.type "BaseException") == some true) = true then (if ((PySem.W.clsIn K C2).isSome && PySem.W.typeIn K (.ref C2) == some (.type "type")) = true then PySem.W.subIn K (.ref C1) (.ref C2) else none) else none) = some (decide (C2 = C1))
  rw [if_pos e1, if_pos e2, e3]
/-- self.f = e of an own error -/
def tErF (K : Fg) (f : Str) (to te : TE) : TS := fun D σ H => te σ H fun y G => to σ G fun x G2 => ∃ (nm : Str) (b : Eb) (a C : Addr), x = .ref a ∧ ErC K nm b C ∧ PySem.W.findIn K (.ref C) f = some none ∧
  ((G2 a = some (exo a C none) ∧ ∀ dx, G2 dx = none → dx ≠ a → D.nx σ (upd (upd G2 dx (exd dx [(f, y)])) a (exo a C (some dx)))) ∨
    ∃ (dx : Addr) (fs : List (Str × V)), G2 a = some (exo a C (some dx)) ∧ G2 dx = some (exd dx fs) ∧ fs.length ≤ 900 ∧ D.nx σ (upd G2 dx (exd dx ((f, y) :: fs))))
/-- C(e, ..) of an own error by its __init__ -/
def tErM (C : Addr) (sp : Sp) (dv : List V) (ta : TA) : L2.St → Hp → XK → Prop := fun σ H Q => ta σ H fun vs G => vs.length ≤ 1000 ∧ ∀ a, G a = none → sp (.ref a :: (vs ++ dv)) (upd G a (exo a C none))
  (fun v G2 => v = .non ∧ ∃ (d : Addr) (fs : List (Str × V)), G2 a = some (exo a C (some d)) ∧ G2 d = some (exd d fs) ∧ G d = none ∧ Q (.ref C) (some d) (upd (L2.del G2 a) d (.xd fs))) (fun _ _ _ => False)
section
variable {X : Cx} {o e : Expr} {es : List Expr} {to te : TE} {ta : TA} {f : Str} {p p' pos : Pos}
theorem ps_erF (ho : PE X o to) (he : PE X e te) (hs : swapsWith e (some (.Attribute o f p')) pos.line X.env = pure false := by rfl) : PS X (.Assign [.Attribute o f p'] e pos) (tErF X.K f to te) := by
  constructor
  intro pins s σ H D I h
  refine plainObj_wpAny_Assign_Attribute (thn (he.run pins s σ H _ I h) fun v s1 z => ?_) hs
  obtain ⟨y, G, J, r1, q1⟩ := z
  refine thn (ho.run pins s1 σ G _ J q1) fun u s2 z => ?_
  obtain ⟨x, G2, J2, r2, nm, b, a, C, rfl, T, no, q⟩ := z
  cases r2
  rcases q with ⟨ea, q⟩ | ⟨dx, fs, ea, ed, few, q⟩
  · exact er_first T J2 ea no r1 fun dx s' n ne J => ⟨σ, _, J, q dx n ne⟩
  · exact er_more T J2 ea ed few no r1 fun s' J => ⟨σ, _, J, q⟩
theorem pmk_er {V0 : CXT} {x nm : Str} {b : Eb} {C fI : Addr} {k : Nat} {fd : FuncData} {qs : List Str} {sp : Sp} {du : List Value} {dv : List V} (T : ErC X.K nm b C) (iC : PySem.W.findIn X.K (.ref C) "__init__" = some (some (.ref fI))) (tI : PySem.W.typeIn X.K (.ref fI) = some (.type "function"))
    (F1 : FnOk X.prog X.w X.K X.mg X.base V0 k fI fd qs sp) (room : Room (k + 1) X.A) (bi : Binds X.K fd qs du) (vd : Vals dv du) (ps : Passes V0 X (fun _ _ _ => False)) (hg : Gl X x) (at_ : X.mg x = some (.ref C)) (ha : PA X (e :: es) ta)
    (db : (x == ("__debug__" : Str)) = false := by decide) (h1 : starEach (e :: es) X.env = (false, eval e X.env) :: starEach es X.env := by rfl) (h2 : (backTo pos (starEach es X.env)).any (·.1) = false := by rfl) :
    PMk X (.Call (.Name x p) (e :: es) [] pos) (tErM C sp dv ta) := by
  intro pins s σ H Q I h
  obtain ⟨q, N, bs, sn, sub, ab, col, dd, k0, k1, k2, k3, k5, hC⟩ := T.cls
  refine wpAny_Call_Name_kw (ld_glob I hg at_ (PySem.W.callWith_K (h₀ := X.base) I.ok.mod.kin T.kp (thn (ha.run pos pins s σ H _ I h) fun us s1 z => ?_) h1 h2) db)
  obtain ⟨vs, G, J, r1, few, q1⟩ := z
  refine ⟨J.kIn, ?_⟩
  show wpAny _ _ (call (.ref C) us) _ _ _
  obtain ⟨hp, g, dr, tk, os⟩ := s1
  have le : hp.objs.size ≤ hp.objs.size + 1 := Nat.le_succ _
  have nn : G (hp.objs.size + 1) = none := J.hok.fresh le
  have q2 := q1 (hp.objs.size + 1) nn
  have kk : ∀ x o, hp.get? x = some o → ((hp.push (PySem.W.kdv_tup us)).push (PySem.HandSPX.excO C hp.objs.size)).get? x = some o := fun x o z => Heap.get?_push_of_some _ (Heap.get?_push_of_some _ z)
  have at2 : ((hp.push (PySem.W.kdv_tup us)).push (PySem.HandSPX.excO C hp.objs.size)).get? (hp.objs.size + 1) = some (PySem.HandSPX.excO C hp.objs.size) := by (heap_get)
  have J2 : Inv X pins σ (upd G (hp.objs.size + 1) (exo (hp.objs.size + 1) C none)) ⟨(hp.push (PySem.W.kdv_tup us)).push (PySem.HandSPX.excO C hp.objs.size), g, dr, tk, os⟩ :=
    J.laid (t' := tk) (a := hp.objs.size + 1) (o := exo (hp.objs.size + 1) C none) (h' := (hp.push (PySem.W.kdv_tup us)).push (PySem.HandSPX.excO C hp.objs.size)) kk le (exo_ok at2)
  have rr : Vals (V.ref (hp.objs.size + 1) :: (vs ++ dv)) (Value.ref (hp.objs.size + 1) :: (us ++ du)) := .cons rfl (r1.append vd)
  have len : (Value.ref (hp.objs.size + 1) :: us ++ du).length = qs.length := (F1.len _ _ _ _ q2 ▸ rr.length).symm
  have fewU : us.length ≤ sizeLine := by (rw [← Paired.length r1, sizeLine_eq]; omega)
  have go := F1.run _ X.stack _ _ ⟨Value.ref (hp.objs.size + 1) :: us, []⟩ (Value.ref (hp.objs.size + 1) :: (us ++ du)) _ _ (fun _ _ _ => False) (room.make C us []) (J2.env0.make C us []) (bi _ (Value.ref (hp.objs.size + 1) :: us) J2.kIn len) rr q2
  refine wpAny_call (er_call (b := b) (J.kIn _ _ hC) (PySem.W.looks_findIn J.kIn iC) (fun x => PySem.W.bind_fn J.kIn x tI) fewU (codeAny_mono go ?_))
  rintro (er | (_ | _ | _ | u)) s' z
  · exact ps pins σ _ _ er s' J2 z
  · exact (show False from z).elim
  · exact (show False from z).elim
  · exact (show False from z).elim
  · obtain ⟨v, H2, os2, bare2, un2, hok2, rv, rfl, d, fs, ea, ed, hd1, q3⟩ := z
    obtain ⟨h2, g2, d2, t2, os'⟩ := s'
    exact ⟨rv, mk_end (raises_own T.be T.ty) J le kk un2 hok2 os2 bare2 ea ed hd1 q3⟩
end
end Nm
set_option Elab.async false
set_option linter.all false
set_option maxRecDepth 100000
set_option maxHeartbeats 4000000
namespace Nm
open PySem PySem.Spec PyProof.Rows L2
section
variable {M : Model} {K : Fg}
/-- a tuple of classes, however many -/
theorem exm_tupN {us : List Value} {cls : Value} {tp e : Addr} {b : Bool} {h : Heap} (X : K.In h) (LT : PySem.W.Looks M h (typeOf (.ref e)) cls) (hp : h.get? tp = some { cls := .type "tuple", data := .seq us.toArray }) (hx : PySem.W.exmAny K cls us = some b) :
    PySem.W.Looks M h (excMatches (.ref e) (.ref tp)) b := by
  intro A Q E s k0 q
  have LI : PySem.W.Looks M h (isInstance (.ref tp) (.type "tuple")) true := ((PySem.W.Looks.ld hp).andThen .now).andThen (PySem.W.Looks.of_pure isSubtype_tuple_tuple)
  have LT := LT.keeps k0
  unfold excMatches
  refine wpAny_bind ((LI.keeps k0).here ?_)
  dsimp only
  rw [if_pos rfl]
  have hp' := k0 _ _ hp
  have Xs : K.In s.heap := fun b o z => k0 _ _ (X b o z)
  first
    | refine wpAny_bind (wpAny_seqItems hp' rfl ?_)
    | refine wpAny_bind (wpAny_bind (wpAny_seqItems hp' rfl (wpAny_pure ?_)))
  dsimp only [Option.getD_some, Option.getD]
  have first_ : ∀ (l : List Value) (b : Bool), PySem.W.exmAny K cls l = some b → ∀ {Q : PUnit → Shared → Prop}, Q () s → wpAny M A (forIn l PUnit.unit fun c _ => do if (!(← isExcClass c)) = true then do rule "try.except-non-exception-class"; raiseError "TypeError" "catching classes that do not inherit from BaseException is not allowed"; pure (ForInStep.yield PUnit.unit) else pure (ForInStep.yield PUnit.unit)) Q E s := by
    intro l
    induction l with
    | nil => intro b _ Q q; exact wpAny_pure q
    | cons c r ih =>
      intro b hb Q q
      obtain ⟨b1, d1, x1, y1, _⟩ := PySem.W.exmAny_cons hb
      obtain ⟨e1, _⟩ := PySem.W.exm_cls (M := M) Xs x1
      rw [List.forIn_cons]
      refine wpAny_bind (wpAny_bind (e1.here ?_))
      rw [if_neg (by decide)]
      exact wpAny_pure (ih d1 y1 q)
  refine wpAny_bind (wpAny_pure ?_)
  refine wpAny_bind (first_ us b hx ?_)
  refine wpAny_bind (LT.here ?_)
  clear first_
  have second_ : ∀ (l : List Value) (b : Bool), PySem.W.exmAny K cls l = some b → ∀ {Q : Option Bool × PUnit → Shared → Prop}, (b = true → Q (some true, ()) s) → (b = false → Q (none, ()) s) → wpAny M A (forIn l ((none : Option Bool), PUnit.unit) fun c _ => do if (← isSubtype cls c) = true then pure (ForInStep.done (some true, PUnit.unit)) else pure (ForInStep.yield (none, PUnit.unit))) Q E s := by
    intro l
    induction l with
    | nil =>
      intro b hb Q _ q
      cases hb
      exact wpAny_pure (q rfl)
    | cons c r ih =>
      intro b hb Q q1 q2
      obtain ⟨b1, d1, x1, y1, rfl⟩ := PySem.W.exmAny_cons hb
      obtain ⟨_, e1⟩ := PySem.W.exm_cls (M := M) Xs x1
      rw [List.forIn_cons]
      refine wpAny_bind (wpAny_bind (e1.here ?_))
      cases b1 with
      | true =>
        rw [if_pos rfl]
        exact wpAny_pure (wpAny_pure (q1 rfl))
      | false =>
        rw [if_neg Bool.false_ne_true]
        exact wpAny_pure (ih d1 y1 (fun z => q1 z) fun z => q2 z)
  refine wpAny_bind (second_ us b hx (fun z => ?_) fun z => ?_)
  · subst z; exact wpAny_pure q
  · subst z; exact wpAny_pure q
end
/-- what is caught by a clause: classes us -/
inductive MtV (h : Heap) : Value → List Value → Prop
  | one (c : Value) : MtV h c [c]
  | many {tp : Addr} {us : List Value} : h.get? tp = some { cls := .type "tuple", data := .seq us.toArray } → MtV h (.ref tp) us
theorem mt_looks {M : Model} {K : Fg} {c cls : Value} {us : List Value} {e : Addr} {b : Bool} {h : Heap} (m : MtV h c us) (X : K.In h) (LT : PySem.W.Looks M h (typeOf (.ref e)) cls) (hx : PySem.W.exmAny K cls us = some b) : PySem.W.Looks M h (excMatches (.ref e) c) b := by
  cases m with
  | one =>
    obtain ⟨b1, d1, x1, y1, rfl⟩ := PySem.W.exmAny_cons hx
    cases y1
    rw [Bool.or_false]
    exact PySem.W.exm_one X LT x1
  | many hp => exact exm_tupN X LT hp hx
/-- a clause's test: it looks classes up, and lays a tuple of them at most -/
def TestOk (X : Cx) (t : Expr) (us : List Value) : Prop := ∀ (a : Addr) (oe : Obj) (pn : List (Addr × Obj)) (σ : L2.St) (H : Hp) (s : Shared) (Q : Value → Shared → Prop) (E : Value → Shared → Prop), Inv (X.suite a ((a, oe) :: pn)) [] σ H s →
  (∀ c h', (∀ x o, s.heap.get? x = some o → h'.get? x = some o) → MtV h' c us → Q c { s with heap := h' }) → wpAny (model X.prog X.w) (X.A.mark (some (.ref a))) (eval t X.env) Q E s
section
variable {X : Cx}
theorem test_one {x : Str} {c : Value} {p : Pos} (n : Names X x c) : TestOk X (.Name x p) [c] := by
  intro a oe pn σ H s Q E I q
  have q0 := q c s.heap (fun _ _ z => z) (.one c)
  obtain ⟨g, db, m | ⟨m, v, nn⟩⟩ := n
  · exact ld_glob (X := X.suite a ((a, oe) :: pn)) I g m q0 db
  · exact ld_blt (X := X.suite a ((a, oe) :: pn)) I g m v q0 nn db
end
/-- one clause: its classes, its name's slot, its suite -/
structure Cls' where
  us : List Value
  nm : Option Nat
  ts : Addr → Value → Option Addr → TS
def endN (nm : Option Nat) (D : Ends) : Ends := match nm with
  | none => D
  | some i => { nx := fun σ' H' => D.nx (σ'.set i none) H', rt := D.rt, bk := fun σ' H' => D.bk (σ'.set i none) H', ct := fun σ' H' => D.ct (σ'.set i none) H' }
def setN (nm : Option Nat) (a : Addr) (σ : L2.St) : L2.St := match nm with
  | none => σ
  | some i => σ.set i (some (.ref a))
/-- what the clauses wish of an error of the body -/
def wCls (K : Fg) (Wout : WX) (D : Ends) : List Cls' → WX
  | [] => Wout
  | c :: r => fun cls d σ H => ∃ b, PySem.W.exmAny K cls c.us = some b ∧ (b = true → ∀ a, H a = none → c.ts a cls d (endN c.nm D) (setN c.nm a σ) H) ∧ (b = false → wCls K Wout D r cls d σ H)
inductive HdsX (X : Cx) : List ExceptHandler → List Cls' → Prop
  | nil : HdsX X [] []
  | plain {t : Expr} {us : List Value} {ts : Addr → Value → Option Addr → TS} {b0 : Stmt} {su : List Stmt} {p : Pos} {hs : List ExceptHandler} {l : List Cls'} (ht : TestOk X t us)
      (hsu : ∀ (a : Addr) (oe : Obj) (cls : Value) (d : Option Addr) (pn : List (Addr × Obj)), Zc cls d oe → (∃ vs, oe.data = .fields vs) → PSs (X.suite a ((a, oe) :: pn)) (b0 :: su) (ts a cls d)) (r : HdsX X hs l) : HdsX X (.ExceptHandler (some t) none (b0 :: su) p :: hs) (⟨us, none, ts⟩ :: l)
  | named {t : Expr} {us : List Value} {n : Str} {i : Nat} {ts : Addr → Value → Option Addr → TS} {b0 : Stmt} {su : List Stmt} {p : Pos} {hs : List ExceptHandler} {l : List Cls'} (nd : X.N.Nodup) (hi : X.N[i]? = some n) (hl : X.env.kindOf n = some .local) (ht : TestOk X t us)
      (hsu : ∀ (a : Addr) (oe : Obj) (cls : Value) (d : Option Addr) (pn : List (Addr × Obj)), Zc cls d oe → (∃ vs, oe.data = .fields vs) → PSs (X.suite a ((a, oe) :: pn)) (b0 :: su) (ts a cls d)) (r : HdsX X hs l) : HdsX X (.ExceptHandler (some t) (some n) (b0 :: su) p :: hs) (⟨us, some i, ts⟩ :: l)
/-- a flight goes on over a heap that has more -/
theorem fly_more {B h h' : Heap} {l : List Env} {a : Addr} {Z : Obj → Prop} (f : HandSPX.FlyingZ B l a Z h) (k : ∀ x o, h.get? x = some o → h'.get? x = some o) : HandSPX.FlyingZ B l a Z h' := by
  obtain ⟨f1, f2, f3, oe, vs, T, oT, ts, g1, g2, g3, g4, g5, g6, g7, g8, g9⟩ := f
  exact ⟨fun x o z => k x o (f1 x o z), f2, f3.of_keeps fun x o z _ => ⟨o, k x o z, rfl⟩, oe, vs, T, oT, ts, k _ _ g1, g2, g3, g4, g5, g6, k _ _ g7, g8, g9⟩
theorem up_more {h h' h'' : Heap} (u : h.UpToSlots h') (k : ∀ x o, h'.get? x = some o → h''.get? x = some o) : h.UpToSlots h'' := fun x o z n => by
  obtain ⟨sl, e⟩ := u x o z n
  exact ⟨sl, k _ _ e⟩
section
variable {X : Cx} {body : List Stmt} {h0 : ExceptHandler} {hds : List ExceptHandler} {l : List Cls'} {pos : Pos} {tb : WX → TS} {Wout : WX}
/-- try, told as one thing -/
def tTry (K : Fg) (Wout : WX) (tb : WX → TS) (l : List Cls') : TS := fun D σ H => tb (wCls K Wout D l) D σ H
theorem ps_tryX (hs : X.stack = X.env :: X.outer) (hf : X.env.frame = some X.env.locals) (tk : Takes X Wout)
    (hb : ∀ (W : WX) (pn : List (Addr × Obj)) (xe : Value → Shared → Prop), Takes (X.tr pn xe) W → PassesOwn (model X.prog X.w) X.A X.env xe → PSs (X.tr pn xe) body (tb W))
    (hh : HdsX X (h0 :: hds) l) : PS X (.Try body (h0 :: hds) [] [] pos) (tTry X.K Wout tb l) := by
  constructor
  intro pins s σ H D I h
  have ok := I.ok
  have fr : X.A.frames = some (X.env :: X.outer) := by rw [ok.frames, hs]
  apply wpAny_Try_except
  have run := (hb (wCls X.K Wout D l) (X.pn ++ pins) (fun e s1 => wpAny (model X.prog X.w) X.A (noteFrame e X.env) (fun _ s2 => wpAny (model X.prog X.w) X.A (setFlight e none) (fun _ s3 => wpAny (model X.prog X.w) X.A (handleBy e X.env (h0 :: hds)) (SP X pins D) X.xe s3) X.xe s2) X.xe s1)
    (fun u s' xx => ?_) PassesOwn.looking).run [] s σ H D (I.toTry _) h
  · refine wpAny_mono run (fun f s1 q => ?_) fun _ _ z => z
    rcases f with _ | _ | _ | u
    · obtain ⟨τ, G, J, q⟩ := q; exact wpAny_execs_nil ⟨τ, G, J.ofTry ok, q⟩
    · obtain ⟨τ, G, J, q⟩ := q; exact ⟨τ, G, J.ofTry ok, q⟩
    · obtain ⟨τ, G, J, q⟩ := q; exact ⟨τ, G, J.ofTry ok, q⟩
    · obtain ⟨v, τ, G, J, r, q⟩ := q; exact ⟨v, τ, G, J.ofTry ok, r, q⟩
  · obtain ⟨a, B, sI, pins', τ, G, cls, d, rfl, J', nb, up, sky, na, os, ag, w⟩ := xx
    have J : Inv X pins τ G sI := J'.ofTry ok
    have sky' : Sky B (X.env :: X.outer) a (Zc cls d) X.env.locals s'.heap := by rw [← hs]; exact sky
    show wpAny (model X.prog X.w) X.A (noteFrame (.ref a) X.env) _ _ _
    refine Sky.land Zc.steady fr hf sky' fun h3 fl3 up3 => ?_
    -- over any heap behind it
    have go : ∀ {hs' : List ExceptHandler} {l' : List Cls'}, HdsX X hs' l' → wCls X.K Wout D l' cls d τ G → ∀ (hp : Heap), HandSPX.FlyingZ B (X.env :: X.outer) a (Zc cls d) hp → sI.heap.UpToSlots hp →
        wpAny (model X.prog X.w) X.A (handleBy (.ref a) X.env hs') (SP X pins D) X.xe { s' with heap := hp } := by
      intro hs' l' hk
      -- the exception's own address
      have place : ∀ {hp : Heap} {oe : Obj} {vs : Array Value}, HandSPX.FlyingZ B (X.env :: X.outer) a (Zc cls d) hp → hp.get? a = some oe → oe.data = .fields vs → a ≠ X.env.locals ∧ a ∉ X.fs := by
        intro hp oe vs fl he hd
        have notF : a ∉ frs (X.env :: X.outer) := fun m => by
          obtain ⟨_, o', e', nf⟩ := fl.2.2.1.mem m
          rw [he] at e'; cases e'
          exact nf _ hd
        refine ⟨fun z => notF (List.mem_filterMap.mpr ⟨X.env, List.mem_cons_self, by rw [hf, z]⟩), fun m => ?_⟩
        obtain ⟨e, he, q⟩ := List.mem_filterMap.mp m
        exact notF (List.mem_filterMap.mpr ⟨e, List.mem_cons_of_mem _ he, q⟩)
      have inS : ∀ {hp : Heap}, HandSPX.FlyingZ B (X.env :: X.outer) a (Zc cls d) hp → sI.heap.UpToSlots hp → ∃ oe, Zc cls d oe ∧ (∃ vs, oe.data = .fields vs) ∧ hp.get? a = some oe ∧ Inv (X.suite a ((a, oe) :: (X.pn ++ pins))) [] τ G { s' with heap := hp } := by
        intro hp fl u
        obtain ⟨oe, vs, he, hz, hd⟩ := fl.there
        obtain ⟨n1, n2⟩ := place fl he hd
        exact ⟨oe, hz, ⟨_, hd⟩, he, (show Inv X pins τ G { s' with heap := hp } from J.landed nb fl.1 u os ag).suite he hd na n1 n2⟩
      induction hk with
      | nil =>
        intro w hp fl u
        apply wpAny_handleBy_nil
        obtain ⟨k1, k2, k3, oe, vs, T, oT, ts', he, hz, hd, h1, hr⟩ := id fl
        unfold PySem.passOn
        apply wpAny_bind (wpAny_field he hd h1 _)
        rw [if_neg (by simp)]
        have fin : wpAny (model X.prog X.w) X.A (setFlight (.ref a) X.env.frame) (fun _ s4 => wpAny (model X.prog X.w) X.A (throw (.ref a) : Sem Flow) (SP X pins D) X.xe s4) X.xe { s' with heap := hp } := by
          rw [hf]
          exact HandSPX.setFlight_upZ fl fun h4 hh up4 => wpAny_throw (tk _ _ ⟨a, B, sI, pins, τ, G, cls, d, rfl, J, nb, u.trans up4, .inr (.inr (by rw [hs]; exact hh)), na, os, ag, w⟩)
        first | exact wpAny_bind (wpAny_pure (wpAny_bind fin)) | exact wpAny_bind fin
      | @plain t us ts b0 su p hs2 l2 ht hsu r ih =>
        rintro ⟨b, hm, yes, no⟩ hp fl u
        obtain ⟨oe, hz, hv, he, S⟩ := inS fl u
        refine wpAny_handleBy_cons (codeAny_handlers_test (ht a oe (X.pn ++ pins) τ G _ _ _ S fun c h' k m => ?_)) (by intro q; cases q)
        have LT : PySem.W.Looks (model X.prog X.w) h' (typeOf (.ref a)) cls := fun A Q E s k' q => wpAny_typeOf_ref (k' _ _ (k _ _ he)) (by rw [hz.1]; exact q)
        have fl' := fly_more fl k
        have u' := up_more u k
        obtain ⟨_, _, _, _, S'⟩ := inS fl' u'
        refine (mt_looks m S'.kIn LT hm).here ?_
        cases b with
        | true =>
          apply codeAny_handlers_suite
          refine HandSPX.lands_againZ fl' fun h4 fl4 up4 => ?_
          obtain ⟨oe4, hz4, hv4, _, S4⟩ := inS fl4 (u'.trans up4)
          refine wpAny_mono ((hsu a oe4 cls d (X.pn ++ pins) hz4 hv4).run [] _ _ G _ S4 (yes rfl a na)) (fun f s6 q => ?_) fun _ _ z => False.elim z
          rcases f with _ | _ | _ | v
          · obtain ⟨_, _, S6, q6⟩ := q; exact ⟨_, _, S6.unsuite ok, q6⟩
          · obtain ⟨_, _, S6, q6⟩ := q; exact ⟨_, _, S6.unsuite ok, q6⟩
          · obtain ⟨_, _, S6, q6⟩ := q; exact ⟨_, _, S6.unsuite ok, q6⟩
          · obtain ⟨_, _, _, S6, r6, q6⟩ := q; exact ⟨_, _, _, S6.unsuite ok, r6, q6⟩
        | false => exact ih (no rfl) h' fl' u'
      | @named t us n i ts b0 su p hs2 l2 nd hi hl ht hsu r ih =>
        rintro ⟨b, hm, yes, no⟩ hp fl u
        obtain ⟨oe, hz, hv, he, S⟩ := inS fl u
        refine wpAny_handleBy_cons (codeAny_handlers_test (ht a oe (X.pn ++ pins) τ G _ _ _ S fun c h' k m => ?_)) (by intro q; cases q)
        have LT : PySem.W.Looks (model X.prog X.w) h' (typeOf (.ref a)) cls := fun A Q E s k' q => wpAny_typeOf_ref (k' _ _ (k _ _ he)) (by rw [hz.1]; exact q)
        have fl' := fly_more fl k
        have u' := up_more u k
        obtain ⟨_, _, _, _, S'⟩ := inS fl' u'
        refine (mt_looks m S'.kIn LT hm).here ?_
        cases b with
        | true =>
          apply codeAny_handlers_suite_as
          refine HandSPX.lands_againZ fl' fun h4 fl4 up4 => ?_
          obtain ⟨oe4, hz4, hv4, _, S4⟩ := inS fl4 (u'.trans up4)
          refine store_ok (X := X.suite a ((a, oe4) :: (X.pn ++ pins))) (v := .ref a) S4 nd hi (.inl hl) rfl (fun s5 S5 => ?_) (.inr hl)
          refine wpAny_mono ((hsu a oe4 cls d (X.pn ++ pins) hz4 hv4).run [] s5 _ G _ S5 (yes rfl a na)) (fun f s6 q => ?_) fun _ _ z => False.elim z
          have fin : ∀ {τ6 : L2.St} {G6 : Hp} {Q : Shared → Prop}, Inv (X.suite a ((a, oe4) :: (X.pn ++ pins))) [] τ6 G6 s6 → (∀ s7, Inv X pins (τ6.set i none) G6 s7 → Q s7) → wpAny (model X.prog X.w) X.A (do bindName X.env n .none; unbindBehindTheSuite X.env n p) (fun _ s7 => Q s7) X.xe s6 :=
            fun {τ6 G6 Q} S6 hq => gone_ok (S6.unsuite ok) nd hi hl hq
          rcases f with _ | _ | _ | v
          · obtain ⟨_, _, S6, q6⟩ := q; exact fin S6 fun s7 J7 => ⟨_, _, J7, q6⟩
          · obtain ⟨_, _, S6, q6⟩ := q; exact fin S6 fun s7 J7 => ⟨_, _, J7, q6⟩
          · obtain ⟨_, _, S6, q6⟩ := q; exact fin S6 fun s7 J7 => ⟨_, _, J7, q6⟩
          · obtain ⟨_, _, _, S6, r6, q6⟩ := q; exact fin S6 fun s7 J7 => ⟨_, _, _, J7, r6, q6⟩
        | false => exact ih (no rfl) h' fl' u'
    exact go hh w h3 fl3 (up.trans up3)
end
end Nm
set_option Elab.async false
set_option linter.all false
set_option maxRecDepth 100000
set_option maxHeartbeats 4000000
namespace Nm
open PySem PySem.Spec PyProof.Rows L2 Evl
def errNames : List Str := ["NoSign", "NoFold", "NoMark", "NoWord", "NoPath", "NoDeed", "NoText", "NoCommand", "NoTable", "NoNumber", "Missing", "Unknown", "Present", "NoOrder", "TooMany", "Barred", "Inside", "NoLink", "NoFile", "Clash", "Stale"]
/-- the errors of the program stand straight over built-in ones -/
def ErOk (Γ : Gm) : Prop := ∀ n C, n ∈ errNames → Γ.cl n = some C → ∃ b, ErC Γ.K n b C
theorem ErOk.exm {Γ : Gm} (er : ErOk Γ) {n m : Str} {C D : Addr} (hn : n ∈ errNames) (hm : m ∈ errNames) (h1 : Γ.cl n = some C) (h2 : Γ.cl m = some D) : PySem.W.exmOne Γ.K (.ref C) (.ref D) = some (decide (n = m)) := by
  obtain ⟨b1, T1⟩ := er n C hn h1
  obtain ⟨b2, T2⟩ := er m D hm h2
  rw [exm_two T1 T2]
  congr 1
  by_cases e : n = m
  · subst e
    rw [h1] at h2
    cases h2
    rw [decide_eq_true rfl, decide_eq_true rfl]
  · rw [decide_eq_false e, decide_eq_false]
    intro z
    subst z
    exact e (T1.name T2)
theorem exm_any {Γ : Gm} (er : ErOk Γ) {n : Str} {C : Addr} (hn : n ∈ errNames) (h1 : Γ.cl n = some C) : ∀ {us : List Value} {ns : List Str}, (∀ m ∈ ns, m ∈ errNames) → Paired (fun u m => ∃ D, u = Value.ref D ∧ Γ.cl m = some D) us ns → PySem.W.exmAny Γ.K (.ref C) us = some (decide (n ∈ ns))
  | _, _, _, .nil => rfl
  | _, m :: ns, hs, .cons h r => by
    obtain ⟨D, rfl, h2⟩ := h
    unfold PySem.W.exmAny
    rw [er.exm hn (hs m List.mem_cons_self) h1 h2, exm_any er hn h1 (fun k hk => hs k (List.mem_cons_of_mem _ hk)) r]
    show some _ = some _
    congr 1
    rw [← Bool.decide_or]
    congr 1
    rw [List.mem_cons]
/-- the fields of an own error, in the order in which its dict keeps them -/
def erFs : List Str → List D → Option (List (Str × D))
  | [f], [x] => some [(f, x)]
  | [f, g], [x, y] => some [(g, y), (f, x)]
  | _, _ => none
def erGs : List Str → List V → List (Str × V)
  | [f], [x] => [(f, x)]
  | [f, g], [x, y] => [(g, y), (f, x)]
  | _, _ => []
/-- __init__(self, f, ..): self.f = f .. -/
def spErI (C : Addr) (fn : List Str) : Sp := fun vs H Q _ => ∃ a ws, vs = .ref a :: ws ∧ ws.length = fn.length ∧ (fn.length = 1 ∨ fn.length = 2) ∧ H a = some (exo a C none) ∧ ∀ d, H d = none → d ≠ a → ∀ G, G a = some (exo a C (some d)) → G d = some (exd d (erGs fn ws)) → (∀ x, x ≠ a → x ≠ d → G x = H x) → Q .non G
theorem er_init1 {K : Fg} {C : Addr} {nm f : Str} {b : Eb} {vs : List V} {H : Hp} {Q : VK} {E : XK} (T : ErC K nm b C) (no : PySem.W.findIn K (.ref C) f = some none) (h : spErI C [f] vs H Q E) (N : List Str) : tErF K f (tVar 0) (tVar 1) { nx := fun _ G => Q .non G, rt := Q } (L2.start N vs) H := by
  obtain ⟨a, ws, rfl, hl, _, ha, q⟩ := h
  match ws, hl with
  | [x], _ =>
    refine ⟨_, rfl, _, rfl, nm, b, a, C, rfl, T, no, .inl ⟨ha, fun d hd ne => ?_⟩⟩
    exact q d hd ne _ upd_same ((upd_ne ne).trans upd_same) fun x h1 h2 => (upd_ne h1).trans (upd_ne h2)
section
variable {Γ : Gm} {Ξ : Xi} {ta : TE} {ma : ME} {tA : TA} {mA : MA}
def mRaise (c : Str) (fn : List Str) (a : MA) : MS := fun env st => bnS env (a env st) fun ds s => match erFs fn ds with
  | some fs => some (.ex c fs env s)
  | none => none
theorem erFs_rp {F : Hp} {φ : List Addr} {fn : List Str} {ds : List D} {vs : List V} {fs : List (Str × D)} (e : erFs fn ds = some fs) (r : RpAll Γ F φ vs ds) : RpFs Γ F φ (erGs fn vs) fs ∧ vs.length = fn.length ∧ (fn.length = 1 ∨ fn.length = 2) := by
  unfold erFs at e
  split at e
  · cases e
    cases r with
    | cons r1 r2 => cases r2; exact ⟨.fc r1 .fn, rfl, .inl rfl⟩
  · cases e
    cases r with
    | cons r1 r2 => cases r2 with
      | cons r2 r3 => cases r3; exact ⟨.fc r2 (.fc r1 .fn), rfl, .inr rfl⟩
  · cases e
theorem sim_raise {c : Str} {C : Addr} {fn : List Str} (hc : Γ.cl c = some C) (ha : SimA Γ Ξ tA mA) : SimS Γ Ξ (fun _ σ H => tErM C (spErI C fn) [] tA σ H fun cls d H' => Ξ.W cls d σ H') (mRaise c fn mA) := by
  intro F R φ σ H env st hE hG D0 h
  refine ha F R φ σ H env st hE hG _ (h.bn hE fun ds s1 F1 φ1 vs H1 _ x1 p1 g1 r1 h => ?_)
  split at h
  · rename_i fs ef
    obtain ⟨rf, l1, l2⟩ := erFs_rp ef r1
    refine ⟨by omega, fun a na => ⟨a, vs, by rw [List.append_nil], l1, l2, upd_same, fun d hd ne G g2 g3 g4 => ⟨rfl, d, _, g2, g3, ?_, ?_⟩⟩⟩
    · rw [← hd, upd_ne ne]
    · have hd1 : H1 d = none := by rw [← hd, upd_ne ne]
      have e : upd (L2.del G a) d (.xd (erGs fn vs)) = upd H1 d (.xd (erGs fn vs)) := by
        funext x
        by_cases hxd : x = d
        · rw [hxd, upd_same, upd_same]
        · rw [upd_ne hxd, upd_ne hxd]
          by_cases hxa : x = a
          · rw [hxa, del_same, na]
          · rw [del_ne hxa, g4 x hxa hxd, upd_ne hxa]
      rw [e]
      have ex := Ex.new (o := .xd (erGs fn vs)) (g1.noF hd1)
      exact h _ φ1 σ C (some d) _ ex (List.prefix_refl _) ((hE.to x1 p1).to ex (List.prefix_refl _)) (g1.new _ hd1) hc ⟨_, upd_same, rf.mono (Le.of ex) (List.prefix_refl _)⟩
  · exact h.elim
def isExn : Option D → Bool
  | some (.exn _ _) => true
  | _ => false
def noX (env : EnvD) : Bool := env.all fun o => !isExn o
structure Clz where
  ns : List Str
  nm : Option Nat
  m : MS
def setX (nm : Option Nat) (d : Option D) (env : EnvD) : EnvD := match nm with
  | none => env
  | some i => env.set i d
def mCatch (c : Str) (fs : List (Str × D)) : List Clz → MS
  | [], env, st => some (.ex c fs env st)
  | k :: r, env, st => if c ∈ k.ns then (match k.m (setX k.nm (some (.exn c fs)) env) st with
      | some (.nx e s) => if noX (setX k.nm none e) = true then some (.nx (setX k.nm none e) s) else none
      | some (.rt d s) => some (.rt d s)
      | some (.bk e s) => if noX (setX k.nm none e) = true then some (.bk (setX k.nm none e) s) else none
      | some (.ct e s) => if noX (setX k.nm none e) = true then some (.ct (setX k.nm none e) s) else none
      | _ => none) else mCatch c fs r env st
def mTry (b : MS) (l : List Clz) : MS := fun env st => match b env st with
  | some (.ex c fs e s) => if c ∈ errNames then mCatch c fs l e s else none
  | r => r
/-- the clauses, one by one -/
inductive SimH (Γ : Gm) : List Cls' → List Clz → Prop
  | nil : SimH Γ [] []
  | cons {us : List Value} {ns : List Str} {nm : Option Nat} {ts : Addr → Value → Option Addr → TS} {m : MS} {l : List Cls'} {ks : List Clz} (hn : ∀ n ∈ ns, n ∈ errNames) (hp : Paired (fun u m => ∃ D, u = Value.ref D ∧ Γ.cl m = some D) us ns)
      (hs : ∀ a C d, SimS Γ ⟨fun _ _ _ _ => False, some (a, C, d)⟩ (ts a (.ref C) d) m) (r : SimH Γ l ks) : SimH Γ (⟨us, nm, ts⟩ :: l) (⟨ns, nm, m⟩ :: ks)
theorem EnvR.none_to {ea : Ea} {F : Hp} {φ : List Addr} {σ : L2.St} {env : EnvD} (h : EnvR Γ none F φ σ env) : EnvR Γ ea F φ σ env := ⟨h.l, fun i d e => by
  obtain ⟨v, h1, h2⟩ := h.g i d e
  rcases h2 with h2 | ⟨_, _, _, _, _, _, z, _⟩
  · exact ⟨v, h1, .inl h2⟩
  · cases z⟩
theorem EnvR.to_none {ea : Ea} {F : Hp} {φ : List Addr} {σ : L2.St} {env : EnvD} (h : EnvR Γ ea F φ σ env) (n : noX env = true) : EnvR Γ none F φ σ env := ⟨h.l, fun i d e => by
  obtain ⟨v, h1, h2⟩ := h.g i d e
  rcases h2 with h2 | ⟨c, fs, _, _, _, z, _⟩
  · exact ⟨v, h1, .inl h2⟩
  · subst z
    have := List.all_eq_true.mp n _ (List.mem_of_getElem? e)
    cases this⟩
theorem EnvR.setN {ea : Ea} {F : Hp} {φ : List Addr} {σ : L2.St} {env : EnvD} {nm : Option Nat} (h : EnvR Γ ea F φ σ env) : EnvR Γ ea F φ (match nm with | none => σ | some i => σ.set i none) (setX nm none env) := by
  cases nm with
  | none => exact h
  | some i => exact h.forget
theorem catch_ok (er : ErOk Γ) {l : List Cls'} {ks : List Clz} (hl : SimH Γ l ks) {F : Hp} {R : Rr} {φ : List Addr} {σ : L2.St} {H : Hp} {env : EnvD} {st : GS} {c : Str} {fs : List (Str × D)} {C : Addr} {x : Option Addr} {W : WX} {D0 : Ends} (hn : c ∈ errNames) (hc : Γ.cl c = some C) (hx : XdR Γ F φ x fs)
    (hE : EnvR Γ none F φ σ env) (hG : GR Γ F R φ H st) (h : PSr Γ ⟨W, none⟩ F R φ (mCatch c fs ks env st) D0) : wCls Γ.K W D0 l (.ref C) x σ H := by
  induction hl with
  | nil => exact h F φ σ C x H (Ex.refl _) (List.prefix_refl _) hE hG hc hx
  | @cons us ns nm ts m l ks hnn hp hs r ih =>
    refine ⟨decide (c ∈ ns), exm_any er hn hc hnn hp, fun hb a na => ?_, fun hb => ?_⟩
    · have hin := of_decide_eq_true hb
      unfold mCatch at h
      rw [if_pos hin] at h
      dsimp only at h
      have hE2 : EnvR Γ (some (a, C, x)) F φ (Nm.setN nm a σ) (setX nm (some (.exn c fs)) env) := by
        cases nm with
        | none => exact hE.none_to
        | some i => exact hE.none_to.setS (.inr ⟨c, fs, a, C, x, rfl, rfl, rfl, hc, hx⟩)
      refine hs a C x F R φ _ H _ st hE2 hG _ ?_
      match hm : m (setX nm (some (.exn c fs)) env) st, h with
      | some (.nx e s), h =>
        dsimp only at h
        split at h
        · rename_i nx
          intro F' φ' σ' H' x' p' e' g'
          have e2 := (EnvR.setN (nm := nm) e').to_none nx
          cases nm <;> exact h F' φ' _ H' x' p' e2 g'
        · exact h.elim
      | some (.rt d s), h => intro F' φ' v H' x' p' r' g'; cases nm <;> exact h F' φ' v H' x' p' r' g'
      | some (.bk e s), h =>
        dsimp only at h
        split at h
        · rename_i nx
          intro F' φ' σ' H' x' p' e' g'
          have e2 := (EnvR.setN (nm := nm) e').to_none nx
          cases nm <;> exact h F' φ' _ H' x' p' e2 g'
        · exact h.elim
      | some (.ct e s), h =>
        dsimp only at h
        split at h
        · rename_i nx
          intro F' φ' σ' H' x' p' e' g'
          have e2 := (EnvR.setN (nm := nm) e').to_none nx
          cases nm <;> exact h F' φ' _ H' x' p' e2 g'
        · exact h.elim
      | some (.ex _ _ _ _), h => exact h.elim
      | none, h => exact h.elim
    · have hin := of_decide_eq_false hb
      unfold mCatch at h
      rw [if_neg hin] at h
      exact ih h
theorem sim_try (er : ErOk Γ) {W : WX} {tb : WX → TS} {mb : MS} {l : List Cls'} {ks : List Clz} (hb : ∀ W, SimS Γ ⟨W, none⟩ (tb W) mb) (hl : SimH Γ l ks) : SimS Γ ⟨W, none⟩ (tTry Γ.K W tb l) (mTry mb ks) := by
  intro F R φ σ H env st hE hG D0 h
  refine hb (wCls Γ.K W D0 l) F R φ σ H env st hE hG D0 ?_
  unfold mTry at h
  match hm : mb env st, h with
  | some (.nx e s), h => exact h
  | some (.rt d s), h => exact h
  | some (.bk e s), h => exact h
  | some (.ct e s), h => exact h
  | none, h => exact h.elim
  | some (.ex c fs e s), h =>
    dsimp only at h
    split at h
    · rename_i hn
      exact fun F' φ' σ' C x H' x' p' e' g' hc hx => catch_ok er hl hn hc hx e' g' (PSr.up x' p' h)
    · exact h.elim
def mXf (i : Nat) (f : Str) (cs : List Str) : ME := fun env st => match env[i]? with
  | some (some (.exn c fs)) => if c ∈ cs then (match fsLk f fs with
    | some d => some (.ok d st)
    | none => none) else none
  | _ => none
theorem sim_xf {W : WX} {a C C' : Addr} {d : Option Addr} {i : Nat} {f c : Str} (hc : Γ.cl c = some C') : SimE Γ ⟨W, some (a, C, d)⟩ (tXf a (.ref C) d C' f (tVar i)) (mXf i f [c]) := by
  intro F R φ σ H env st hE hG Q h
  unfold mXf at h
  split at h
  · rename_i c' fs he
    obtain ⟨hc', h9⟩ := PX.ifp h
    clear h
    obtain ⟨v, h1, h2⟩ := hE.g i _ he
    rcases h2 with h2 | ⟨c2, fs2, a2, C2, x2, e1, e2, e3, e4, e5⟩
    · cases h2
    · cases e1
      cases e2
      subst e3
      have hcc : c' = c := List.mem_singleton.mp hc'
      subst hcc
      rw [e4] at hc
      cases hc
      split at h9
      · rename_i dd el
        cases d with
        | none =>
          have e5 : fs = [] := e5
          rw [e5] at el
          cases el
        | some dx =>
          obtain ⟨gs, g1, g2⟩ := e5
          rcases g2.lk (f := f) with ⟨z1, z2⟩ | ⟨w, dw, z1, z2, rd⟩
          · rw [z2] at el; cases el
          · rw [z2] at el
            cases el
            exact ⟨_, h1, rfl, rfl, dx, gs, w, rfl, hG.f _ _ g1, z1, PX.now h9 hG rd⟩
      · exact h9.elim
  · exact h.elim
end
end Nm
set_option Elab.async false
set_option linter.all false
set_option maxRecDepth 100000
set_option maxHeartbeats 4000000
namespace Nm
open PySem PySem.Spec PyProof.Rows L2 Evl
structure CalN (P : Program) (w : World) (K : Fg) (mg : Str → Option Value) (base : Heap) (CX : CXT) (k : Nat) (ps : List Str) (sp : Sp) (f : Addr) (fd : FuncData) : Prop where
  ok : FnOk P w K mg base CX k f fd ps sp
  b : Binds K fd ps []
theorem CalN.up {P : Program} {w : World} {K : Fg} {mg : Str → Option Value} {base : Heap} {CX : CXT} {j k : Nat} {ps : List Str} {sp : Sp} {f : Addr} {fd : FuncData} (C : CalN P w K mg base CX j ps sp f fd) (h : j ≤ k) : CalN P w K mg base CX k ps sp f fd := ⟨C.ok.mono h, C.b⟩
theorem CalN.r {P : Program} {w : World} {K : Fg} {mg : Str → Option Value} {base : Heap} {CX : CXT} {k : Nat} {ps : List Str} {sp : Sp} {f : Addr} {fd : FuncData} (C : CalN P w K mg base CX k ps sp f fd) : FnR P w K mg base CX k f sp :=
  (C.ok.raw C.b .nil).imp fun vs H Q E h => by rw [List.append_nil]; exact h
theorem hu65_of {A : Around} {k : Nat} (hr : Room k A) : A.units + 65 < cLine := by
  have := hr.un
  omega
theorem passesF {X : Cx} : Passes (L2.CX X.prog X.w) X (fun _ _ _ => False) := fun _ _ _ _ _ _ _ ⟨_, _, _, _, _, _, _, _, _, _, _, _, z⟩ => z.elim
theorem spErI_len {C : Addr} {fn : List Str} {vs : List V} {H : Hp} {Q : VK} {E : XK} (h : spErI C fn vs H Q E) : vs.length = fn.length + 1 := by
  obtain ⟨a, ws, rfl, hl, _⟩ := h
  rw [List.length_cons, hl]
section
variable {Γ : Gm} {tb : TS} {mb : MS}
theorem spM_lenR {n N : Nat} {vs : List V} {H : Hp} {Q : VK} {E : XK} (h : spM Γ (nrM (mFn n N mb)) vs H Q E) : vs.length = n := by
  obtain ⟨F, R, φ, ds, st, g, r, p⟩ := h
  exact spM_len (Γ := Γ) (E := E) ⟨F, R, φ, ds, st, g, r, p.nrM0⟩
theorem run_fnR {N : List Str} {n : Nat} {vs : List V} {H : Hp} {Q : VK} {E : XK} (h : spM Γ (nrM (mFn n N.length mb)) vs H Q E) (hb : SimS Γ ⟨fun _ _ _ _ => False, none⟩ tb mb) : tb { nx := fun _ H' => Q .non H', rt := Q } (L2.start N vs) H := by
  obtain ⟨F, R, φ, ds, st, g, r, p⟩ := h
  exact run_fnM (E := fun _ _ _ => False) ⟨F, R, φ, ds, st, g, r, p.nrM0⟩ hb
theorem FnG.gc {P : Program} {w : World} {K : Fg} {mg : Str → Option Value} {base : Heap} {CX : CXT} {k : Nat} {f : Addr} {fd : FuncData} {ps : List Str} {m : MF} (F : FnG P w K mg base CX k f fd ps (spM Γ m)) : FnG P w K mg base CX k f fd ps (spM Γ (gcM m)) :=
  ⟨fun vs H Q E h => F.many vs H Q E (spM_gc h), fun A fr s H ar us vs Q E hG hr he hb hv h => F.go A fr s H ar us vs Q E hG hr he hb hv (spM_gc h)⟩
end
def mSetI (d k v : ME) : MS := fun env st => match mDPut d k v env st with
  | some r => some r
  | none => mAsg v (mgSub d k) env st
section
variable {Γ : Gm} {Ξ : Xi} {ta tb te tv tr : TE} {ma mb me mv mr : ME} {tA : TA} {mA : MA} {tS : TS} {mS : MS}
theorem sim_setI (hv : SimE Γ Ξ tv mv) (hd : SimE Γ Ξ ta ma) (hk : SimE Γ Ξ tb mb) : SimS Γ Ξ (sOr2 (sDPut ta tb tv) (tAsg tv (gSub ta tb rSetL))) (mSetI ma mb mv) := by
  intro F R φ σ H env st hE hG D0 h
  unfold mSetI at h
  cases e : mDPut ma mb mv env st with
  | some r =>
    rw [e] at h
    exact .inl (sim_dput hv hd hk F R φ σ H env st hE hG D0 (by rw [e]; exact h))
  | none =>
    rw [e] at h
    exact .inr (sim_asg hv (sim_gSub hd hk) F R φ σ H env st hE hG D0 h)
end
theorem mem1 {α : Type} {a c : α} (h : c ∈ [a]) : c = a := by simpa using h
theorem mem2 {α : Type} {a b c : α} (h : c ∈ [a, b]) : c = a ∨ c = b := by simpa using h
theorem memE {c : Str} (h : c ∈ errNames) : c = "NoSign" ∨ c = "NoFold" ∨ c = "NoMark" ∨ c = "NoWord" ∨ c = "NoPath" ∨ c = "NoDeed" ∨ c = "NoText" ∨ c = "NoCommand" ∨ c = "NoTable" ∨ c = "NoNumber" ∨ c = "Missing" ∨ c = "Unknown" ∨ c = "Present" ∨ c = "NoOrder" ∨ c = "TooMany" ∨ c = "Barred" ∨ c = "Inside" ∨ c = "NoLink" ∨ c = "NoFile" ∨ c = "Clash" ∨ c = "Stale" := by
  simpa only [errNames, List.mem_cons, List.not_mem_nil, or_false] using h
def spLawT (K : Fg) (T : List (Addr × Str)) : Sp := fun vs H Q _ => ∃ (a : Addr) (ns : List Int), vs = [.ref a] ∧ SqL K H a (ns.map V.int) ∧ ns.length ≤ 63 ∧ LamX.Tabs T H ∧ ∀ H', Q (.bl true) H'
/-- all but tables -/
def noTb (H : Hp) : Hp := fun a => match H a with
  | some (.tbl _) => none
  | o => o
theorem noTb_of {H : Hp} {a : Addr} {o : HO} (h : H a = some o) (k : okT o) : noTb H a = some o := by
  unfold noTb
  rw [h]
  cases o <;> first | rfl | exact k.elim
theorem noTb_ex (H : Hp) : Ex (noTb H) H := fun a o h => by
  unfold noTb at h
  split at h
  · cases h
  · exact h
theorem noTb_ok (H : Hp) : ∀ a o, noTb H a = some o → okT o := fun a o h => by
  unfold noTb at h
  split at h
  · cases h
  · rename_i n
    cases o <;> first | exact True.intro | exact absurd h (n _)
theorem GR.start {Γ : Gm} {F H : Hp} (e : Ex F H) (k : ∀ a o, F a = some o → okT o) (t : LamX.Tabs Γ.tb H) : GR Γ F ⟨fun _ => none, fun _ => none⟩ [] H [] where
  f := e
  r := fun _ _ h => nomatch h
  s := fun _ _ h => nomatch h
  d := fun _ _ => rfl
  e := fun _ h => absurd rfl h
  m := fun _ _ h => nomatch h
  l := rfl
  u := List.nodup_nil
  h := fun _ h => nomatch h
  c := fun _ _ _ h => nomatch h
  x := ⟨t, k, (fun _ _ h => nomatch h), (fun _ _ h => nomatch h), (fun _ h => nomatch h)⟩
theorem rpInts {Γ : Gm} {F : Hp} {φ : List Addr} : ∀ ns : List Int, RpAll Γ F φ (ns.map V.int) (ns.map fun i => .v (.int i))
  | [] => .nil
  | n :: ns => .cons (.v _) (rpInts ns)
theorem FnG.law {Γ : Gm} {P : Program} {w : World} {mg : Str → Option Value} {base : Heap} {CX : CXT} {k : Nat} {f : Addr} {fd : FuncData} {ps : List Str} {m : MF}
    (hl : ∀ ns : List Int, ns.length ≤ 63 → ∃ st, m [.lsk (ns.map fun i => .v (.int i))] [] = some (.ok (.v (.bl true)) st))
    (F : FnG P w Γ.K mg base CX k f fd ps (spM Γ m)) : FnG P w Γ.K mg base CX k f fd ps (spLawT Γ.K Γ.tb) := by
  have im : ∀ vs H Q E, spLawT Γ.K Γ.tb vs H Q E → spM Γ m vs H Q E := by
    rintro vs H Q E ⟨a, ns, rfl, hS, hn, hT, q⟩
    obtain ⟨st, e⟩ := hl ns hn
    have hS' : SqL Γ.K (noTb H) a (ns.map V.int) := hS.imp (fun h => h.imp (fun e => noTb_of e True.intro) fun ⟨o, e⟩ => ⟨o, noTb_of e True.intro⟩) id
    refine ⟨noTb H, _, [], _, [], GR.start (noTb_ex H) (noTb_ok H) hT, .cons (.lsk hS' (rpInts ns)) .nil, ?_⟩
    rw [e]
    intro F' φ' v H' x p g r
    have := r.vi
    subst this
    exact q H'
  exact ⟨fun vs H Q E h => F.many vs H Q E (im _ _ _ _ h), fun A fr s H ar us vs Q E hG hr he hb hv h => F.go A fr s H ar us vs Q E hG hr he hb hv (im _ _ _ _ h)⟩
end Nm
set_option Elab.async false
set_option linter.all false
set_option maxRecDepth 100000
set_option maxHeartbeats 4000000
namespace Nm
open PySem PySem.Spec PyProof.Rows L2 Evl
def mPairs : List (ME × ME) → EnvD → GS → RO (List (Key × D))
  | [], _, st => some (.ok [] st)
  | (k, v) :: r, env, st => bq (k env st) fun x s => match kOf x with
    | some k => bq (v env s) fun y s => bq (mPairs r env s) fun l s => some (.ok ((k, y) :: l) s)
    | none => none
def mDisp (l : List (ME × ME)) : ME := fun env st => bq (mPairs l env st) fun ks s => if ks.length ≤ 15 then some (.ok (.dic (mergeD [] ks)) s) else none
inductive SimPs (Γ : Gm) (Ξ : Xi) : List (TE × TE) → List (ME × ME) → Prop
  | nil : SimPs Γ Ξ [] []
  | cons {tk tv : TE} {mk mv : ME} {ts : List (TE × TE)} {ms : List (ME × ME)} : SimE Γ Ξ tk mk → SimE Γ Ξ tv mv → SimPs Γ Ξ ts ms → SimPs Γ Ξ ((tk, tv) :: ts) ((mk, mv) :: ms)
section
variable {Γ : Gm} {Ξ : Xi} {ta tb te : TE} {ma mb me : ME} {tA : TA} {mA : MA}
theorem sim_pairs {ts : List (TE × TE)} {ms : List (ME × ME)} (h : SimPs Γ Ξ ts ms) : ∀ F R φ σ H env st ks s', EnvR Γ Ξ.ea F φ σ env → GR Γ F R φ H st → mPairs ms env st = some (.ok ks s') →
    ∀ Q, (∀ F' φ' vs H', Ex F F' → φ <+: φ' → GR Γ F' R φ' H' s' → RpKv Γ F' φ' vs ks → Q (vs.map fun kv => (kV kv.1, kv.2)) H') → tPairs ts σ H Q := by
  induction h with
  | nil =>
    intro F R φ σ H env st ks s' hE hG e Q q
    cases e
    exact q F φ [] H (Ex.refl _) (List.prefix_refl _) hG .kn
  | cons hk hv _ ih =>
    intro F R φ σ H env st ks s' hE hG e Q q
    unfold mPairs at e
    obtain ⟨x, s1, e1, e⟩ := bq_of e
    split at e
    · rename_i kk ek
      obtain ⟨y, s2, e2, e⟩ := bq_of e
      obtain ⟨l, s3, e3, e⟩ := bq_of e
      cases e
      refine hk F R φ σ H env st hE hG _ (PX.is e1 fun F1 φ1 v1 H1 x1 p1 g1 r1 => hv F1 R φ1 σ H1 env s1 (hE.to x1 p1) g1 _ (PX.is e2 fun F2 φ2 v2 H2 x2 p2 g2 r2 => ?_))
      refine ih F2 R φ2 σ H2 env s2 l _ (hE.to (x1.trans x2) (p1.trans p2)) g2 e3 _ fun F3 φ3 vs H3 x3 p3 g3 r3 => ?_
      rw [kOf_eq ek] at r1
      have := r1.vi
      subst this
      exact q F3 φ3 ((kk, v2) :: vs) H3 ((x1.trans x2).trans x3) ((p1.trans p2).trans p3) g3 (.kc (r2.mono (Le.of x3) p3) r3)
    · cases e
theorem RpKv.merge {F : Hp} {φ : List Addr} {ms : List (Key × V)} {me : List (Key × D)} (h : RpKv Γ F φ ms me) : ∀ {ks : List (Key × V)} {ds : List (Key × D)}, RpKv Γ F φ ks ds → RpKv Γ F φ (mergeK ks ms) (mergeD ds me) := by
  induction me generalizing ms with
  | nil =>
    intro ks ds h0
    cases h
    exact h0
  | cons d me ih =>
    intro ks ds h0
    cases h with
    | kc r t => exact ih t (h0.put _ r)
theorem sim_disp {ts : List (TE × TE)} {ms : List (ME × ME)} (h : SimPs Γ Ξ ts ms) : SimE Γ Ξ (tDisp ts) (mDisp ms) := by
  intro F R φ σ H env st hE hG Q hp p np
  obtain ⟨ks, s1, e1, hp⟩ := PX.bq hp
  obtain ⟨hl, hp⟩ := PX.ifp hp
  refine sim_pairs h F (R.mk1 p (.dK [])) φ σ _ env st ks s1 hE (hG.newR _ np) e1 _ fun F' φ' vs H' x1 p1 g1 r1 => ?_
  refine ⟨g1.r _ _ upd_same, vs, rfl, by rw [r1.len]; exact hl, ?_⟩
  have nR := hG.noR np
  have g2 := g1.setR (p := p) (o := .dK (mergeK [] vs)) upd_same
  rw [rmk1] at g2
  have g3 := g2.done nR
  exact hp _ φ' _ _ (x1.trans (ex_done g2)) p1 g3 (.dic (.inl upd_same) ((r1.mono (Le.of (ex_done g2)) (List.prefix_refl _)).merge .kn))
end
end Nm
set_option Elab.async false
set_option linter.all false
set_option maxRecDepth 100000
set_option maxHeartbeats 4000000
namespace Nm
open PySem PySem.Spec PyProof.Rows L2 Evl
def vsD : List D → Option (List V)
  | [] => some []
  | .v x :: r => (vsD r).map (x :: ·)
  | _ => none
theorem vsD_eq {Γ : Gm} {F : Hp} {φ : List Addr} : ∀ {xs : List V} {ds : List D} {vs : List V}, RpAll Γ F φ xs ds → vsD ds = some vs → xs = vs
  | _, _, _, .nil, e => by cases e; rfl
  | _, .v _ :: _, _, .cons r t, e => by
    obtain ⟨w, e1, rfl⟩ := Option.map_eq_some_iff.mp (show (vsD _).map _ = _ from e)
    rw [vsD_eq t e1, r.vi]
section
variable {Γ : Gm} {Ξ : Xi} {ta tb te tv tr : TE} {ma mb me mv mr : ME} {tA : TA} {mA : MA} {tS : TS} {mS : MS}
theorem simc_listC : SimC Γ (rListA Γ.K) fListC := by
  intro F R φ H st xs ds hG r Q h
  unfold fListC fList at h
  split at h
  · rename_i ds0 s0 e0
    split at e0
    · cases r with
      | cons r1 r2 =>
        cases r2
        split at e0
        · rename_i k
          cases e0
          exact .inr (.inl ⟨_, by rw [r1.vi], k, fun p n _ => h.cell hG n ⟨_, upd_same, (rp_sgs _).mono (Le.refl _) (List.prefix_append ..)⟩⟩)
        · cases e0
    · cases r with
      | cons r1 r2 =>
        cases r2
        split at e0
        · rename_i ks e1
          cases e0
          obtain ⟨a, xs, rfl, h2, rr⟩ := hG.dv e1 r1
          exact .inr (.inr ⟨a, xs, rfl, h2, fun p n => h.cell hG n ⟨_, upd_same, rr.keyV.mono (Le.refl _) (List.prefix_append ..)⟩⟩)
        · split at e0
          · rename_i ds e1
            cases e0
            obtain ⟨a, xs, rfl, h2, rr⟩ := hG.sv e1 r1
            exact .inl ⟨a, xs, rfl, h2, fun p n => h.cell hG n ⟨_, upd_same, rr.mono (Le.refl _) (List.prefix_append ..)⟩⟩
          · cases e0
    · cases e0
  · exact h.no.elim
end
end Nm
set_option Elab.async false
set_option linter.all false
set_option maxRecDepth 100000
set_option maxHeartbeats 4000000
set_option Elab.async false
set_option linter.all false
set_option maxRecDepth 100000
set_option maxHeartbeats 4000000
namespace Nm
open PySem PySem.Spec PyProof.Rows L2 Evl
/-- a def whose code object is known -/
structure FunC (K : Fg) (x qual : Str) (st : Stmt) (f : Addr) (fd : FuncData) (c : Addr) : Prop where
  ex : ∃ oc od kV doc pm an ct osl, fd = PySem.W.fnOf x qual (defArgs st) (defBody st) (defScope st) .none kV doc pm an (.ref c) ct ∧ K.lookup f = some ⟨oc, od, .func fd, osl⟩ ∧ PySem.W.codeIn K (.ref c) qual = true
  kp : PySem.W.keepIn K (.ref f) = true
theorem FunC.fn {K : Fg} {x qual : Str} {st : Stmt} {f : Addr} {fd : FuncData} {c : Addr} (F : FunC K x qual st f fd c) : Fun K x qual st f fd := by
  obtain ⟨oc, od, kV, doc, pm, an, ct, osl, e, lk, hc⟩ := F.ex
  exact ⟨⟨oc, od, kV, doc, pm, an, _, ct, osl, e, lk, hc⟩, F.kp⟩
theorem FunC.okX {P : Program} {w : World} {K : Fg} {mg : Str → Option Value} {base : Heap} {x qual : Str} {st : Stmt} {f : Addr} {fd : FuncData} {c : Addr} {N ps : List Str} {k : Nat} {sp : Sp}
    (F : FunC K x qual st f fd c) (S : FnScope N ps (defScope st)) (many : ∀ vs H Q E, sp vs H Q E → vs.length = ps.length)
    (hb : ∀ (A : Around) (outer : List Env) (s : Shared) (H : Hp) (vs : List V) (Q : VK) (E : XK), Room k (A.deeper (envOfC qual (defScope st) s.heap.objs.size f (.ref c))) → sp vs H Q E →
      ∃ t, PSs (cxOf (L2.CX P w) P w K mg base N qual (defScope st) f (.ref c) A outer s H E) (defBody st) t ∧ t { nx := fun _ H' => Q .non H', rt := Q } (L2.start N vs) H) :
    FnOk P w K mg base (L2.CX P w) (k + 1) f fd ps sp := by
  obtain ⟨oc, od, kV, doc, pm, an, ct, osl, rfl, lk, hc⟩ := F.ex
  exact ⟨many, fun A outer s H args us vs Q E hr e0 hbi r q => LamX.run_ofS lk hc S hr e0 hbi r (many _ _ _ _ q) fun hr' => hb A outer s H vs Q E hr' q⟩
/-- the code objects and their tables, as the law begins -/
structure Css (K : Fg) (mg : Str → Option Value) (h : Heap) (cs : List (Addr × Addr)) : Prop where
  hd : ∀ p ∈ cs, PySem.W.CodeHd h p.1 p.2
  tb : ∀ p ∈ cs, h.get? p.2 = some (PySem.W.tabObj #[])
  no : ∀ p ∈ cs, K.lookup p.2 = none
/-- sys.modules is a dict -/
def SysM (h : Heap) : Prop := ∃ o es ep, h.get? sysModules = some o ∧ o.data = .dict es ep
def withT (cs : List (Addr × Addr)) (H : Hp) : Hp := fun b => if b ∈ cs.map (·.2) then some (.tbl #[]) else H b
theorem withT_tb {cs : List (Addr × Addr)} {H : Hp} {p : Addr × Addr} (h : p ∈ cs) : withT cs H p.2 = some (.tbl #[]) := if_pos (List.mem_map.mpr ⟨p, h, rfl⟩)
theorem withT_no {cs : List (Addr × Addr)} {H : Hp} {b : Addr} (h : b ∉ cs.map (·.2)) : withT cs H b = H b := if_neg h
theorem head_callT {P : Program} {w : World} {K : Fg} {mg mb : Str → Option Value} {k : Nat} {fa a : Addr} {fd : FuncData} {x : Str} {sp : Sp} {s₁ : Shared} {vs : List Value} {ns : List Int} {cs : List (Addr × Addr)}
    (KX : K.In s₁.heap) (hns : s₁.heap.Ns mainGlobals mg) (hb : s₁.heap.Ns builtinsNs mb) (hbb : ∀ x : Str, x ≠ "__name__" → mb x = bootBuiltins x) (hlim : s₁.heap.NoLimit) (hg : s₁.gens = #[]) (C : Css K mg s₁.heap cs)
    (hbm : ∃ bm ob, mg ("__builtins__" : Str) = some (.ref bm) ∧ bm ≠ builtinsNs ∧ s₁.heap.get? bm = some ob ∧ ob.cls = .type "module" ∧ ob.dict = some builtinsNs ∧ ob.data = .plain)
    (ha : s₁.heap.get? a = some { cls := .type "list", data := .seq vs.toArray }) (hi : IntsAre vs ns) (hl : ns.length ≤ sizeLine) (hr : Room k callerA)
    (F : ∀ base : Heap, K.In base → base.Ns mainGlobals mg → (∀ p ∈ cs, LamX.TabB base mg p.1 p.2) → (SysM s₁.heap → SysM base) → FnG P w K mg base CX0 k fa fd [x] sp) (hbi : ∀ (s : Shared) (u : Value), BindsTo s fd ⟨[u], []⟩ [(x, u)])
    (hsp : ∀ H : Hp, (∀ p ∈ cs, H p.2 = some (.tbl #[])) → SqL K H a (ns.map V.int) → sp [.ref a] H (fun v _ => v = .bl true) fun _ _ _ => False) :
    codeAny (model P w) callerA (.call (.ref fa) ⟨[.ref a], []⟩) (fun r s' => r = .ok (.ret (.bool true)) ∧ OldK s₁.heap s'.heap ∧ s'.os = s₁.os ∧ AllBare s'.gens) s₁ := by
  have rv := vals_ints hi
  have tbm : ∀ {b : Addr}, b ∈ cs.map (·.2) → ∃ p ∈ cs, b = p.2 := fun h => by
    obtain ⟨p, h1, h2⟩ := List.mem_map.mp h
    exact ⟨p, h1, h2.symm⟩
  have ant : a ∉ cs.map (·.2) := fun h => by
    obtain ⟨p, h1, rfl⟩ := tbm h
    rw [C.tb p h1] at ha
    cases ha
  obtain ⟨H, hO, hS, hA, hK, hok⟩ : ∃ H : Hp, (∀ b, H b = none ∨ ∃ o xs, H b = some (.frz o (.lst xs))) ∧ SqL K H a (ns.map V.int) ∧ (∀ b, H b ≠ none → b = a) ∧ (H a ≠ none → K.lookup a = none) ∧ (∀ b u, H b = some u → ObjOk P w (withT cs H) s₁.heap b u) := by
    cases hk : K.lookup a with
    | some o =>
      have e := KX a o hk
      rw [ha] at e
      injection e with e
      subst e
      exact ⟨fun _ => none, fun _ => .inl rfl, .inr ⟨_, vs.toArray, _, hk, rfl, rfl, rfl, by simpa [hi.length] using hl, by simpa using rv⟩, fun b z => (z rfl).elim, fun z => (z rfl).elim, fun b u z => nomatch z⟩
    | none =>
      let o : Obj := { cls := .type "list", data := .seq vs.toArray }
      have at_ : ∀ b, (upd (fun _ => none) a (.frz o (.lst (ns.map V.int)))) b ≠ none → b = a := fun b z => by
        by_cases h : b = a
        · exact h
        · rw [upd_ne h] at z
          exact (z rfl).elim
      refine ⟨upd (fun _ => none) a (.frz o (.lst (ns.map V.int))), fun b => ?_, .inl (.inr ⟨o, upd_same⟩), at_, fun _ => rfl, fun b u z => ?_⟩
      · by_cases h : b = a
        · subst h
          exact .inr ⟨o, _, upd_same⟩
        · exact .inl (upd_ne h)
      · obtain rfl := at_ b (by rw [z]; simp)
        rw [upd_same] at z
        injection z with z
        subst z
        exact ⟨ha, by simpa using hl, vs, _, rv, ha⟩
  -- what is tracked, tables and all
  have tr : ∀ {b : Addr}, withT cs H b ≠ none → b ∈ cs.map (·.2) ∨ b = a := fun {b} z => by
    by_cases h : b ∈ cs.map (·.2)
    · exact .inl h
    · exact .inr (hA b (by rw [withT_no h] at z; exact z))
  have noT : ∀ {b : Addr} {o : Obj}, s₁.heap.get? b = some o → (∀ vs, o ≠ { cls := .type "list", data := .seq vs }) → o ≠ PySem.W.tabObj #[] → withT cs H b = none := by
    intro b o e n1 n2
    cases q : withT cs H b with
    | none => rfl
    | some u =>
      rcases tr (b := b) (by rw [q]; simp) with h | rfl
      · obtain ⟨p, h1, rfl⟩ := tbm h
        rw [C.tb p h1] at e
        injection e with e
        exact absurd e.symm n2
      · rw [ha] at e
        injection e with e
        exact absurd e.symm (n1 _)
  have hok2 : HOk P w (withT cs H) s₁.heap := fun b u z => by
    by_cases h : b ∈ cs.map (·.2)
    · obtain ⟨p, h1, rfl⟩ := tbm h
      rw [withT_tb h1] at z
      cases z
      exact C.tb p h1
    · rw [withT_no h] at z
      exact hok b u z
  have nsK : ∀ {b : Addr} {m : Str → Option Value}, s₁.heap.Ns b m → (hidT s₁.heap (withT cs H)).Ns b m := fun {b m} ⟨o, es, ep, e, d, r⟩ => ⟨o, es, ep, hidT_get e (noT e (fun vs z => by rw [z] at d; cases d) (fun z => by rw [z] at d; cases d)), d, r⟩
  have hKb : K.In (hidT s₁.heap (withT cs H)) := fun b o e => hidT_get (KX b o e) (by
    cases q : withT cs H b with
    | none => rfl
    | some u =>
      by_cases h : b ∈ cs.map (·.2)
      · obtain ⟨p, h1, rfl⟩ := tbm h
        rw [C.no p h1] at e
        cases e
      · rw [withT_no h] at q
        obtain rfl := hA b (by rw [q]; simp)
        rw [hK (by rw [q]; simp)] at e
        cases e)
  have hM : Mod K mg (hidT s₁.heap (withT cs H)) := by
    obtain ⟨mc, h1, h2⟩ := hlim
    exact ⟨hKb, nsK hns, ⟨mb, nsK hb, hbb⟩, ⟨mc, nsK h1, h2⟩⟩
  have tabB : ∀ p ∈ cs, LamX.TabB (hidT s₁.heap (withT cs H)) mg p.1 p.2 := fun p hp => by
    have nd : ∀ {b : Addr} {m : Str → Option Value}, s₁.heap.Ns b m → b ≠ p.2 := fun {b m} ⟨o, es, ep, e, d, r⟩ z => by
      rw [z, C.tb p hp] at e
      injection e with e
      rw [← e] at d
      cases d
    obtain ⟨o, vs', file, tf, flags, tg, inF, text, tt, e1, e2, e3, r⟩ := C.hd p hp
    obtain ⟨bm, ob, m1, m2, m3, m4, m5, m6⟩ := hbm
    refine ⟨⟨o, vs', file, tf, flags, tg, inF, text, tt, hidT_get e1 (noT e1 (fun vs z => by rw [z] at e2; injection e2 with e2; exact absurd e2 (by decide)) (fun z => by rw [z] at e2; cases e2)), e2, e3, r⟩, ⟨bm, ob, m1, m2, fun z => ?_, fun z => ?_, hidT_get m3 (noT m3 (fun vs z => by rw [z] at m4; injection m4 with m4; exact absurd m4 (by decide)) (fun z => by rw [z] at m4; cases m4)), m4, m5, m6⟩, nd hns⟩
    · obtain ⟨o', es, ep, e, d, r⟩ := hns
      rw [← z, m3] at e
      injection e with e
      rw [← e, m6] at d
      cases d
    · rw [z, C.tb p hp] at m3
      injection m3 with e
      rw [← e] at m4
      cases m4
  have sysB : SysM s₁.heap → SysM (hidT s₁.heap (withT cs H)) := fun ⟨o, es, ep, e, d⟩ => ⟨o, es, ep, hidT_get e (noT e (fun vs z => by rw [z] at d; cases d) (fun z => by rw [z] at d; cases d)), d⟩
  have e0 : Env0 P w K mg (hidT s₁.heap (withT cs H)) callerA [] s₁ (withT cs H) :=
    ⟨rfl, hM, fun b o e => of_hidT e, Nat.le_of_eq (hidT_size _ _), trivial, fun b z => absurd (show b ∈ ([] : List Addr) from z) (by simp), hok2, .of_eq hg⟩
  have hS2 : SqL K (withT cs H) a (ns.map V.int) := hS.imp (fun h => h.imp (fun e => (withT_no ant).trans e) fun ⟨o, e⟩ => ⟨o, (withT_no ant).trans e⟩) id
  have go := (F _ hKb (nsK hns) tabB sysB).go callerA [] s₁ (withT cs H) ⟨[.ref a], []⟩ [.ref a] [.ref a] _ _ rfl hr e0 (hbi s₁ (.ref a)) (.cons rfl .nil) (hsp _ (fun p hp => withT_tb hp) hS2)
  refine codeAny_mono go ?_
  rintro (e | (_ | _ | _ | u)) s' h
  · exact (show False from h).elim
  · exact (show False from h).elim
  · exact (show False from h).elim
  · exact (show False from h).elim
  · obtain ⟨v, H', os, bare, un, hok', r', rfl⟩ := h
    obtain rfl : u = Value.bool true := r'
    refine ⟨rfl, ⟨fun b o e => ?_, fun b o e => un.there b o e (by simp)⟩, os, bare⟩
    by_cases hb' : b ∈ cs.map (·.2)
    · obtain ⟨p, h1, rfl⟩ := tbm hb'
      obtain ⟨more, hm⟩ := un.tbls p.2 #[] (withT_tb h1)
      have e2 : s'.heap.get? p.2 = some (PySem.W.tabObj (#[] ++ more)) := hok' _ _ hm
      obtain ⟨o', vs', file, tf, flags, tg, inF, text, tt, e1, c2, c3, c4, _⟩ := C.hd p h1
      rw [C.tb p h1] at e
      cases e
      exact .inr (.inl ⟨⟨p.1, o', vs', e1, c2, c3, c4⟩, rfl, #[], more, rfl, e2⟩)
    · left
      cases q : withT cs H b with
      | none => exact un.keep b o e q (fun z => absurd (show b ∈ ([] : List Addr) from z) (by simp)) (by simp)
      | some u =>
        rw [withT_no hb'] at q
        rcases hO b with z | ⟨ob, xs, z⟩
        · rw [q] at z
          cases z
        · have e1 := (hok b _ z).1
          rw [e] at e1
          have z2 : withT cs H b = some (.frz ob (.lst xs)) := (withT_no hb').trans z
          rw [(hok' b _ (un.frzs b ob _ z2)).1, ← e1]
theorem walk_GT {l : PySem.W.OpenLaw} {n k : Nat} {q : Program} {loose : List Str} {XP : (Str → Option Value) → Heap → Prop} {YP : World → Heap → Prop} {d : DefRec} {K : Params → Fg} {x : Str}
    (hn : l.most = some n) (hn2 : n ≤ sizeLine) (hdf : d.params.defaults = []) (hr : Room k callerA) (hY : ∀ (w : World) (h : Heap), YP w h → (K w.params).In h)
    (F : ∀ (w : World) (mg : Str → Option Value) (fa : Addr) (h : Heap), YP w h → (K w.params).In h → h.Ns mainGlobals mg → mg d.name = some (.ref fa) →
      ∃ (fd : FuncData) (cs : List (Addr × Addr)) (sp : Sp), Css (K w.params) mg h cs ∧
        (∀ (s : Shared) (u : Value), BindsTo s fd ⟨[u], []⟩ [(x, u)]) ∧
        (∀ (H : Hp) (a : Addr) (ns : List Int), ns.length ≤ n → (∀ p ∈ cs, H p.2 = some (.tbl #[])) → SqL (K w.params) H a (ns.map V.int) → sp [.ref a] H (fun v _ => v = .bl true) fun _ _ _ => False) ∧
        ∀ base : Heap, (K w.params).In base → base.Ns mainGlobals mg → (∀ p ∈ cs, LamX.TabB base mg p.1 p.2) → (importsNone q = true → SysM base) → FnG l.prog w (K w.params) mg base CX0 k fa fd [x] sp) :
    PySem.W.WalkO q loose XP YP l.row.toRowW d [] (fun f vs => PySem.call f vs) := by
  refine Att.attach_call hn hdf fun w s₀ s₁ mg mb fa o pm cd doc a vs ns G Y ho hd hcd hmg hobj hints hlen hg => ?_
  have KX := hY w _ Y
  obtain ⟨fd, cs, sp, hc, hb, hsp, hF⟩ := F w mg fa _ Y KX G.T.g hmg
  exact head_callT KX G.T.g G.T.b G.T.builtins G.T.nolimit hg hc G.T.bmain hobj hints (Nat.le_trans hlen hn2) hr (fun base h1 h2 h3 h4 => hF base h1 h2 h3 fun hi => h4 ((G.T.seer hi).mods.elim fun mm hm => by
    obtain ⟨o, es, ep, e, d, _⟩ := hm.1
    exact ⟨o, es, ep, e, d⟩)) hb fun H hT hS => hsp H a ns hlen hT hS
end Nm
set_option Elab.async false
set_option linter.all false
set_option maxRecDepth 100000
set_option maxHeartbeats 4000000
namespace Nm
open PySem PySem.Spec PyProof.Rows L2 Evl
section
variable {Γ : Gm} {Ξ : Xi} {te td tk tx : TE} {me md mk mx : ME}
/-- d.setdefault(k, x) of a dict that is being made -/
def mSetd (d k x : ME) : ME := fun env st => bn (d env st) fun y s => match y with
  | .obj n => match s[n]? with
    | some (.dic _) => bn (k env s) fun z s => bn (x env s) fun w s => match kOf z with
      | some kk => match s[n]? with
        | some (.dic ks) => if ks.length < 100000 then (match valD ks kk with
          | some v => some (.ok v s)
          | none => some (.ok w (s.set n (.dic (putD ks kk w))))) else none
        | _ => none
      | none => none
    | _ => none
  | _ => none
def dfzL : List D → GS → Option (List D × GS)
  | [], s => some ([], s)
  | .obj n :: r, s => match s[n]? with
    | some (.lst es) => (dfzL r (s.set n .free)).map fun q => (.lst es :: q.1, q.2)
    | _ => none
  | d :: r, s => (dfzL r s).map fun q => (d :: q.1, q.2)
def dfz : D → GS → Option (D × GS)
  | .obj n, s => match s[n]? with
    | some (.lst es) => (dfzL es (s.set n .free)).map fun q => (.lst q.1, q.2)
    | _ => none
  | .lst es, s => (dfzL es s).map fun q => (.lst q.1, q.2)
  | _, _ => none
end
end Nm
set_option Elab.async false
set_option linter.all false
set_option maxRecDepth 100000
set_option maxHeartbeats 4000000
namespace Nm
open PySem PySem.Spec PyProof.Rows L2 Evl
section
variable {Γ : Gm} {Ξ : Xi} {to ti te ta : TE} {mo mi me ma : ME} {tA : TA} {mA : MA}
def rAln : V → List V → Hp → VK → Prop := fun x xs H Q => ∃ a, x = V.str a ∧ xs = [] ∧ True ∧ Q (V.bl (Txt.isalnum a)) H
def mAln (a : ME) : ME := fun env st => bn (a env st) fun x s => match x with
  | .v (.str z) => some (.ok (.v (.bl (Txt.isalnum z))) s)
  | _ => none
theorem sim_aln (ha : SimE Γ Ξ ta ma) : SimE Γ Ξ (tBM0 Γ.K "str" rAln ta) (mAln ma) := by
  intro F R φ σ H env st hE hG Q h
  refine ha F R φ σ H env st hE hG _ (h.bn fun x s1 F1 φ1 v1 H1 e0 x1 p1 g1 r1 h => ?_)
  clear e0
  split at h
  · rename_i z
    have := r1.vi
    subst this
    exact ⟨rfl, z, rfl, rfl, trivial, PX.now h g1 (.v _)⟩
  · exact h.elim
def mPopAt (a : ME) (r : MA) : ME := fun env st => bn (a env st) fun x s => match x with
  | .obj n => match s[n]? with
    | some (.lst _) => bn (r env s) fun ys s => match ys, s[n]? with
      | [.v (.int i)], some (.lst ds) => if 0 ≤ i ∧ i < ds.length ∧ i ≤ 100000 then (match ds[i.toNat]? with
        | some d => some (.ok d (s.set n (.lst (ds.eraseIdx i.toNat))))
        | none => none) else none
      | _, _ => none
    | _ => none
  | _ => none
theorem RpAll.erase {F : Hp} {φ : List Addr} : ∀ {xs : List V} {ds : List D} (j : Nat), RpAll Γ F φ xs ds → RpAll Γ F φ (xs.eraseIdx j) (ds.eraseIdx j)
  | _, _, _, .nil => .nil
  | _, _, 0, .cons _ t => t
  | _, _, j + 1, .cons h t => .cons h (t.erase j)
theorem sim_popAt (ha : SimE Γ Ξ ta ma) (hr : SimA Γ Ξ tA mA) : SimE Γ Ξ (tBM Γ.K "list" rPopAt ta tA) (mPopAt ma mA) := by
  intro F R φ σ H env st hE hG Q h
  refine ha F R φ σ H env st hE hG _ (h.bn fun x s1 F1 φ1 v1 H1 e0 x1 p1 g1 r1 h => ?_)
  clear e0
  split at h
  · rename_i n
    split at h
    · rename_i ds0 hs0
      obtain ⟨a, xs0, rfl, ha0, h0, _⟩ := g1.cellL r1 hs0
      refine ⟨.inl ⟨rfl, xs0, sq_of h0⟩, hr F1 R φ1 σ H1 env s1 (hE.to x1 p1) g1 _ (h.bn fun ys s2 F2 φ2 vs H2 e0 x2 p2 g2 r2 h => ?_)⟩
      clear e0
      split at h
      · rename_i i ds hs
        split at h
        · rename_i hk
          split at h
          · rename_i d hd
            cases r2 with
            | cons r3 r4 =>
              cases r4
              obtain ⟨b, xs, eb, hb, h3, rr⟩ := g2.cellL (r1.mono (Le.of x2) p2) hs
              cases eb
              obtain ⟨y, hy, ry⟩ := rr.get _ _ hd
              refine ⟨a, xs, i, i.toNat, y, rfl, by rw [r3.vi], h3, by omega, by omega, ?_, hy, ?_⟩
              · unfold seqIndex?
                rw [rr.len]
                simp only [show ¬ i < 0 from by omega, if_false]
                rw [if_pos]
                simp only [Bool.and_eq_true, decide_eq_true_eq]
                exact ⟨hk.1, hk.2.1⟩
              · exact PX.now h (g2.set hb hs (by intro z; cases z) ⟨_, upd_same, rr.erase _⟩) ry
          · exact h.elim
        · exact h.elim
      · exact h.elim
    · exact h.elim
  · exact h.elim
def mDPop1 (a k : ME) : ME := fun env st => bn (a env st) fun x s => match x with
  | .obj n => match s[n]? with
    | some (.dic _) => bn (k env s) fun z s => match kOf z, s[n]? with
      | some kk, some (.dic ks) => match valD ks kk with
        | some d => some (.ok d (s.set n (.dic (dropD ks kk))))
        | none => none
      | _, _ => none
    | _ => none
  | _ => none
theorem sim_dpop1 (ha : SimE Γ Ξ ta ma) (hk : SimE Γ Ξ te me) : SimE Γ Ξ (tDPop1 ta te) (mDPop1 ma me) := by
  intro F R φ σ H env st hE hG Q h
  refine ha F R φ σ H env st hE hG _ (h.bn fun x s1 F1 φ1 v1 H1 e0 x1 p1 g1 r1 h => ?_)
  clear e0
  split at h
  · rename_i n
    split at h
    · rename_i ks0 hs0
      obtain ⟨a, vs0, rfl, ha0, h0, _⟩ := g1.cellD r1 hs0
      refine ⟨a, rfl, .inl ⟨vs0, .inl h0⟩, hk F1 R φ1 σ H1 env s1 (hE.to x1 p1) g1 _ (h.bn fun z s2 F2 φ2 v2 H2 e0 x2 p2 g2 r2 h => ?_)⟩
      clear e0
      split at h
      · rename_i kk ks ek hs
        split at h
        · rename_i d hd
          rw [kOf_eq ek] at r2
          obtain ⟨b, vs, eb, hb, h3, rr⟩ := g2.cellD (r1.mono (Le.of x2) p2) hs
          cases eb
          rcases rr.val kk with ⟨_, q2⟩ | ⟨v', d', q1, q2, rv⟩
          · rw [hd] at q2; cases q2
          · rw [hd] at q2
            cases q2
            exact ⟨vs, kk, v', h3, r2.vi, q1, PX.now h (g2.set hb hs (by intro z; cases z) ⟨_, upd_same, rr.drop kk⟩) rv⟩
        · exact h.elim
      · exact h.elim
    · exact h.elim
  · exact h.elim
end
end Nm
set_option Elab.async false
set_option linter.all false
set_option maxRecDepth 100000
set_option maxHeartbeats 4000000
namespace Nm
open PySem PySem.Spec PyProof.Rows L2 Evl
section
variable {X : Cx} {V0 : CXT} {k n j : Nat} {f : Addr} {fd : FuncData} {qs ks : List Str} {sp : Sp} {E : L2.St → XK} {x : Str} {p pos : Pos} {e : Expr} {es : List Expr} {kws : List Keyword} {t tk : TA}
/-- bound by the first n places and keywords for the rest, in their order -/
abbrev KwB (K : Fg) (fd : FuncData) (qs : List Str) (n : Nat) (ks : List Str) : Prop := KBn K fd qs n ks (fun us ws => us ++ ws) (fun vs zs => vs ++ zs)
end
/-- a def with defaults, by its name: dvs for the last places, keywords behind the first n -/
structure CalD (P : Program) (w : World) (K : Fg) (mg : Str → Option Value) (base : Heap) (CX : CXT) (k : Nat) (x : Str) (ps : List Str) (sp : Sp) (f : Addr) (fd : FuncData) (dvs : List V) (ds : List Value) (n : Nat) (ks : List Str) : Prop where
  ok : FnOk P w K mg base CX k f fd ps sp
  mg : mg x = some (.ref f)
  kp : PySem.W.keepIn K (.ref f) = true
  b : Binds K fd ps ds
  vd : Vals dvs ds
  kb : KwB K fd ps n ks
theorem CalD.up {P : Program} {w : World} {K : Fg} {mg : Str → Option Value} {base : Heap} {CX : CXT} {j k : Nat} {x : Str} {ps : List Str} {sp : Sp} {f : Addr} {fd : FuncData} {dvs : List V} {ds : List Value} {n : Nat} {ks : List Str} (C : CalD P w K mg base CX j x ps sp f fd dvs ds n ks) (h : j ≤ k) :
    CalD P w K mg base CX k x ps sp f fd dvs ds n ks := ⟨C.ok.mono h, C.mg, C.kp, C.b, C.vd, C.kb⟩
end Nm
set_option Elab.async false
set_option linter.all false
set_option maxRecDepth 100000
set_option maxHeartbeats 4000000
namespace Nm
open PySem PySem.Spec PyProof.Rows L2 Evl
def NoSys (K : Fg) (H : Hp) : Prop := H sysModules = none ∧ ∀ a o, K.lookup a = some o → (∀ es ep, o.data ≠ .dict es ep) → a ≠ sysModules
theorem noSys {X : Cx} {pins : List (Addr × Obj)} {σ : L2.St} {H : Hp} {s : Shared} (I : Inv X pins σ H s) (b : SysM X.base) : NoSys X.K H := by
  obtain ⟨o, es, ep, e, d⟩ := b
  have b0 := I.ok.bs _ _ e
  refine ⟨I.base.free _ _ b0.1 b0.2 (I.ok.noex _ _ e), fun a o' hl hd ha => ?_⟩
  subst ha
  have := I.mod.kin _ _ hl
  rw [e] at this
  cases this
  exact hd _ _ d
mutual
/-- data with dicts -/
def pyX : D → Option PyData
  | .v .non => some .none
  | .v (.bl b) => some (.bool b)
  | .v (.int i) => some (.int i)
  | .v (.str z) => some (.str z)
  | .v _ => none
  | .lst ds => (pyXs ds).map .list
  | .lsk ds => (pyXs ds).map .list
  | .tup ds => (pyXs ds).map .tuple
  | .tpk ds => (pyXs ds).map .tuple
  | .dic ks => (pyXk ks).map .dict
  | .dit _ => none
  | .obj _ => none
  | .ins _ _ => none
  | .cls _ => none
  | .exn _ _ => none
  | .exv _ _ => none
def pyXs : List D → Option (List PyData)
  | [] => some []
  | d :: r => (pyX d).bind fun e => (pyXs r).map (e :: ·)
def pyXk : List (Key × D) → Option (List (PyData × PyData))
  | [] => some []
  | (k, d) :: r => (pyX d).bind fun e => (pyXk r).map ((keyD k, e) :: ·)
end
section
variable {Γ : Gm} {F H : Hp} {R : Rr} {φ : List Addr} {st : GS}
theorem GR.dx (g : GR Γ F R φ H st) (n : NoSys Γ.K H) {v : V} {d : D} (h : Rp Γ F φ v d) : ∀ e, pyX d = some e → Dx Γ.K H v e := by
  have nl : ∀ {a : Addr} {xs : List V}, SqL Γ.K H a xs → a ≠ sysModules := fun {a xs} hq => by
    rcases hq with (e | ⟨o, e⟩) | ⟨o, its, c, hk, _, _, hd, _⟩
    · exact fun z => by rw [z, n.1] at e; cases e
    · exact fun z => by rw [z, n.1] at e; cases e
    · exact n.2 _ _ hk fun es ep z => by rw [hd] at z; cases z
  induction h using Rp.rec (motive_2 := fun xs ds _ => ∀ es, pyXs ds = some es → DxAll Γ.K H xs es) (motive_3 := fun ks ds _ => ∀ es, pyXk ds = some es → ∃ xs, es = (ks.map fun p => keyD p.1).zip xs ∧ DxAll Γ.K H (ks.map (·.2)) xs) (motive_4 := fun _ _ _ => True) (motive_5 := fun _ _ _ => True) with
  | v x =>
    intro e h
    cases x <;> first | (simp only [pyX] at h; cases h; constructor) | (simp only [pyX] at h; cases h)
  | lst h _ ih =>
    intro e k
    simp only [pyX] at k
    obtain ⟨es, h1, rfl⟩ := Option.map_eq_some_iff.mp k
    exact .lst (nl (sq_of (g.f _ _ h))) (sq_of (g.f _ _ h)) (ih es h1)
  | lsk h _ ih =>
    intro e k
    simp only [pyX] at k
    obtain ⟨es, h1, rfl⟩ := Option.map_eq_some_iff.mp k
    exact .lst (nl (g.sq h)) (g.sq h) (ih es h1)
  | tup h _ ih =>
    intro e k
    simp only [pyX] at k
    obtain ⟨es, h1, rfl⟩ := Option.map_eq_some_iff.mp k
    exact .tup (st_of (g.f _ _ h)) (ih es h1)
  | tpk h _ ih =>
    intro e k
    simp only [pyX] at k
    obtain ⟨es, h1, rfl⟩ := Option.map_eq_some_iff.mp k
    exact .tup (g.st' h) (ih es h1)
  | dic h _ ih =>
    intro e k
    simp only [pyX] at k
    obtain ⟨es, h1, rfl⟩ := Option.map_eq_some_iff.mp k
    obtain ⟨xs, rfl, hx⟩ := ih es h1
    exact .dic (g.rd h) hx
  | dit => intro e k; simp only [pyX] at k; cases k
  | obj => intro e k; simp only [pyX] at k; cases k
  | ins => intro e k; simp only [pyX] at k; cases k
  | cls => intro e k; simp only [pyX] at k; cases k
  | exv => intro e k; simp only [pyX] at k; cases k
  | exw => intro e k; simp only [pyX] at k; cases k
  | nil => rename_i es k; simp only [pyXs] at k; cases k; exact .nil
  | cons _ _ h1 h2 =>
    rename_i es k
    simp only [pyXs] at k
    obtain ⟨e, t, k1, k2, rfl⟩ := bind_map_cons k
    exact .cons (h1 e k1) (h2 t k2)
  | kn => rename_i es k; simp only [pyXk] at k; cases k; exact ⟨[], rfl, .nil⟩
  | kc _ _ h1 h2 =>
    rename_i es k
    simp only [pyXk] at k
    obtain ⟨e, k1, k⟩ := Option.bind_eq_some_iff.mp k
    obtain ⟨t, k2, rfl⟩ := Option.map_eq_some_iff.mp k
    obtain ⟨xs, rfl, hx⟩ := h2 t k2
    exact ⟨e :: xs, rfl, .cons (h1 e k1) hx⟩
  | tn => trivial
  | tc => trivial
  | fn => trivial
  | fc => trivial
end
def rReprM (K : Fg) : List V → Hp → VK → Prop := fun xs H Q => ∃ x d, xs = [x] ∧ (NoSys K H → Dx K H x d) ∧ Fit d ∧ Q (.str d.shown) H
theorem call_reprM {X : Cx} {K : Fg} (hK : X.K = K) (hG : X.A.guards = some []) (hu : X.A.units + 64 < cLine) (b : SysM X.base) : CallR X (.builtin "repr") (rReprM K) := by
  subst hK
  rintro pins s σ H xs us Q I r ⟨x, d, rfl, hd, hf, q⟩
  exact call_repr hG hu pins s σ H [x] us Q I r ⟨x, d, rfl, hd (noSys I b), hf, q⟩
def fReprX : List D → GS → Option (D × GS) := fun xs st => match xs with
  | [x] => match pyX x with
    | some d => if fitB d = true then some (.v (.str d.shown), st) else none
    | none => none
  | _ => none
theorem simc_reprX {Γ : Gm} : SimC Γ (rReprM Γ.K) fReprX := by
  intro F R φ H st xs ds hG r Q h
  unfold fReprX at h
  split at h
  · cases r with
    | cons r1 r2 =>
      cases r2
      split at h
      · rename_i d e
        obtain ⟨k, h⟩ := h.ifp
        exact ⟨_, d, rfl, fun n => hG.dx n r1 d e, fit_of k, h.now hG (.v _)⟩
      · exact h.no.elim
  · exact h.no.elim
end Nm
set_option Elab.async false
set_option linter.all false
set_option maxRecDepth 100000
set_option maxHeartbeats 4000000
namespace PySem
open Sem (wp)
/-- the items are tuples, at Ts: the pairs ps -/
def TupItems (h : Heap) (items : Array Value) (Ts : Nat → Addr) (ps : List (Value × Value)) : Prop :=
  items.size = ps.length ∧ ∀ j k v, ps[j]? = some (k, v) → items[j]? = some (.ref (Ts j)) ∧ h.IsTuple (Ts j) #[k, v]
theorem TupItems.at {h h' : Heap} {items : Array Value} {Ts : Nat → Addr} {ps : List (Value × Value)} (x : TupItems h items Ts ps) (e : ∀ j, j < ps.length → ∀ o, h.get? (Ts j) = some o → h'.get? (Ts j) = some o) : TupItems h' items Ts ps :=
  ⟨x.1, fun j k v hj => ⟨(x.2 j k v hj).1, (x.2 j k v hj).2.at (e j (List.getElem?_eq_some_iff.mp hj).1)⟩⟩
/-- the rows of pairs made so far: the list's items acc are the tuples at Ts, the pairs ps -/
structure ZRow (B : Nat) (P1 P2 : Nat → Value → Prop) (h : Heap) (acc : Array Value) (Ts : Nat → Addr) (ps : List (Value × Value)) : Prop where
  its : TupItems h acc Ts ps
  new : ∀ j, j < ps.length → B ≤ Ts j
  rel : ∀ j k v, ps[j]? = some (k, v) → P1 j k ∧ P2 j v
theorem ZRow.nil {B : Nat} {P1 P2 : Nat → Value → Prop} {h : Heap} : ZRow B P1 P2 h #[] (fun _ => 0) [] := ⟨⟨rfl, fun j k v e => nomatch e⟩, (fun j hj => nomatch hj), (fun j k v e => nomatch e)⟩
theorem ZRow.at {B : Nat} {P1 P2 : Nat → Value → Prop} {h h' : Heap} {acc : Array Value} {Ts : Nat → Addr} {ps : List (Value × Value)} (R : ZRow B P1 P2 h acc Ts ps) (hk : ∀ b o, B ≤ b → h.get? b = some o → h'.get? b = some o) : ZRow B P1 P2 h' acc Ts ps :=
  ⟨R.its.at fun j hj o e => hk _ o (R.new j hj) e, R.new, R.rel⟩
theorem ZRow.snoc {B T : Nat} {P1 P2 : Nat → Value → Prop} {h : Heap} {acc : Array Value} {Ts : Nat → Addr} {ps : List (Value × Value)} {x y : Value} (R : ZRow B P1 P2 h acc Ts ps) (hT : IsTupOf2 h T x y) (hB : B ≤ T) (p1 : P1 ps.length x) (p2 : P2 ps.length y) :
    ZRow B P1 P2 h (acc.push (.ref T)) (fun j => if j = ps.length then T else Ts j) (ps ++ [(x, y)]) := by
  refine ⟨⟨by rw [Array.size_push, R.its.1, List.length_append]; rfl, fun j k v e => ?_⟩, fun j hj => ?_, fun j k v e => ?_⟩
  · by_cases hj : j = ps.length
    · subst hj
      rw [List.getElem?_append_right (Nat.le_refl _), Nat.sub_self] at e
      cases e
      simp only [if_true]
      rw [← R.its.1, Array.getElem?_push_size]
      exact ⟨rfl, ⟨_, hT, rfl, _, rfl⟩⟩
    · have hlt : j < ps.length := by
        have := (List.getElem?_eq_some_iff.mp e).1
        rw [List.length_append] at this
        simp only [List.length_cons, List.length_nil] at this
        omega
      rw [List.getElem?_append_left hlt] at e
      have r := R.its.2 j k v e
      simp only []
      rw [if_neg hj, Array.getElem?_push, if_neg (by rw [R.its.1]; exact hj)]
      exact r
  · by_cases hj' : j = ps.length
    · rw [if_pos hj']; exact hB
    · rw [if_neg hj']
      refine R.new j ?_
      rw [List.length_append] at hj
      simp only [List.length_cons, List.length_nil] at hj
      omega
  · by_cases hj : j = ps.length
    · subst hj
      rw [List.getElem?_append_right (Nat.le_refl _), Nat.sub_self] at e
      cases e
      exact ⟨p1, p2⟩
    · have hlt : j < ps.length := by
        have := (List.getElem?_eq_some_iff.mp e).1
        rw [List.length_append] at this
        simp only [List.length_cons, List.length_nil] at this
        omega
      rw [List.getElem?_append_left hlt] at e
      exact R.rel j k v e
end PySem
namespace PySem
end PySem
set_option Elab.async false
set_option linter.all false
set_option maxRecDepth 100000
set_option maxHeartbeats 4000000
namespace Nm
open PySem PySem.Spec PyProof.Rows L2 Evl
section
variable {Γ : Gm} {Ξ : Xi}
theorem Rp.tup' {F : Hp} {φ : List Addr} {x : V} {ds : List D} (h : Rp Γ F φ x (.tup ds)) : ∃ a xs, x = .ref a ∧ F a = some (.tup xs) ∧ RpAll Γ F φ xs ds := by cases h with | tup h1 h2 => exact ⟨_, _, rfl, h1, h2⟩
end
end Nm
set_option Elab.async false
set_option linter.all false
set_option maxRecDepth 100000
set_option maxHeartbeats 4000000
set_option Elab.async false
set_option linter.all false
set_option maxRecDepth 100000
set_option maxHeartbeats 4000000
namespace Nm
open PySem PySem.Spec PyProof.Rows L2 Evl
section
variable {Γ : Gm} {F : Hp} {φ : List Addr}
theorem RpKt.val : ∀ {ks : List (List Key × V)} {ds : List (List Key × D)} (k : List Key), RpKt Γ F φ ks ds → (valV ks k = none ∧ valD ds k = none) ∨ ∃ v d, valV ks k = some v ∧ valD ds k = some d ∧ Rp Γ F φ v d
  | _, _, k, .tn => .inl ⟨rfl, rfl⟩
  | (k', x) :: _, (_, d) :: _, k, .tc r t => by
    by_cases h : k' = k
    · exact .inr ⟨x, d, by unfold valV; rw [List.find?_cons, decide_eq_true h]; rfl, by unfold valD; rw [List.find?_cons, decide_eq_true h]; rfl, r⟩
    · have e1 : ∀ l, valV ((k', x) :: l) k = valV l k := fun l => by unfold valV; rw [List.find?_cons, decide_eq_false h]
      have e2 : ∀ l, valD ((k', d) :: l) k = valD l k := fun l => by unfold valD; rw [List.find?_cons, decide_eq_false h]
      rw [e1, e2]
      exact RpKt.val k t
theorem RpKt.app : ∀ {xs ys : List (List Key × V)} {ds es : List (List Key × D)}, RpKt Γ F φ xs ds → RpKt Γ F φ ys es → RpKt Γ F φ (xs ++ ys) (ds ++ es)
  | _, _, _, _, .tn, g => g
  | _, _, _, _, .tc h t, g => .tc h (t.app g)
theorem RpKt.any : ∀ {ks : List (List Key × V)} {ds : List (List Key × D)} (k : List Key), RpKt Γ F φ ks ds → (ks.any fun kv => decide (kv.1 = k)) = (ds.any fun kv => decide (kv.1 = k))
  | _, _, k, .tn => rfl
  | _, _, k, .tc r t => by rw [List.any_cons, List.any_cons, RpKt.any k t]
theorem RpKt.rep {v : V} {d : D} (k : List Key) (r : Rp Γ F φ v d) : ∀ {ks : List (List Key × V)} {ds : List (List Key × D)}, RpKt Γ F φ ks ds → RpKt Γ F φ (ks.map fun kv => if kv.1 = k then (kv.1, v) else kv) (ds.map fun kv => if kv.1 = k then (kv.1, d) else kv)
  | _, _, .tn => .tn
  | (k', x) :: _, (_, d') :: _, .tc r' t => by
    rw [List.map_cons, List.map_cons]
    by_cases h : k' = k
    · rw [if_pos h, if_pos h]; exact .tc r (t.rep k r)
    · rw [if_neg h, if_neg h]; exact .tc r' (t.rep k r)
theorem RpKt.put {ks : List (List Key × V)} {ds : List (List Key × D)} {v : V} {d : D} (k : List Key) (h : RpKt Γ F φ ks ds) (r : Rp Γ F φ v d) : RpKt Γ F φ (putK ks k v) (putD ds k d) := by
  unfold putK putD
  rw [h.any k]
  split
  · exact h.rep k r
  · exact h.app (.tc r .tn)
variable {Ξ : Xi} {tk tv td : TE} {mk mv md : ME}
end
end Nm
set_option Elab.async false
set_option linter.all false
set_option maxRecDepth 100000
set_option maxHeartbeats 4000000
set_option Elab.async false
set_option linter.all false
set_option maxRecDepth 100000
set_option maxHeartbeats 4000000
set_option Elab.async false
set_option linter.all false
set_option maxRecDepth 100000
set_option maxHeartbeats 4000000
set_option Elab.async false
set_option linter.all false
set_option maxRecDepth 100000
set_option maxHeartbeats 4000000
set_option Elab.async false
set_option linter.all false
set_option maxRecDepth 100000
set_option maxHeartbeats 4000000
namespace Nm
open PySem PySem.Spec PyProof.Rows L2 Evl
def bm__law_bag_4c78 : MS := (mSeq (mAsg (mIf (mTest (mOp fLt (mVar 1) (mCB fLen (mCons (mVar 0) mNil)))) (mOp fIx (mVar 0) (mVar 1)) (mC (.int 0))) (mgName 2))
  (mSeq (mAsg (mIf (mTest (mOp fGe (mCB (f1I fun i => if i < 0 then -i else i) (mCons (mVar 2) mNil)) (mOp (fI cPow fun i j => .int (i ^ j.toNat)) (mC (.int 10)) (mC (.int 18))))) (mCB (f1I fun i => if i < 0 then -i else i) (mCons (mVar 2) mNil)) (mC (.int 0))) (mgName 3))
  (mRet (mLstC (mCons (mVar 3) (mCons (mOp (fI cMod fun i j => .int (i % j)) (mOp fMul (mOp fAdd (mOp fAdd (mOp (fI cMod fun i j => .int (i % j)) (mVar 2) (mC (.int 2305843009213693951))) (mOp fMul (mC (.int 6211)) (mVar 1))) (mC (.int 17))) (mC (.int 92821993))) (mC (.int 2305843009213693951))) (mCons (mC (.int 0)) mNil)))))))
def m__law_bag_4c78 : MF := gcM (mFn 2 4 bm__law_bag_4c78)
def bm__law_take_d4ae : MS := (mSeq (mIfS (mTest (mOp fGt (mOp fIx (mVar 0) (mC (.int 0))) (mC (.int 0)))) (mSeq (mAsg (mOp (fI cMod fun i j => .int (i % j)) (mOp fIx (mVar 0) (mC (.int 0))) (mVar 1)) (mgName 2))
  (mSeq (mSetI (mVar 0) (mC (.int 0)) (mOp (fI cDiv fun i j => .int (i / j)) (mOp fIx (mVar 0) (mC (.int 0))) (mVar 1)))
  (mRet (mVar 2)))) mNext)
  (mSeq (mSetI (mVar 0) (mC (.int 2)) (mOp fAdd (mOp fIx (mVar 0) (mC (.int 2))) (mC (.int 1))))
  (mSeq (mAsg (mOp (fI cMod fun i j => .int (i % j)) (mOp (fI cPow fun i j => .int (i ^ j.toNat)) (mOp fAdd (mOp fIx (mVar 0) (mC (.int 1))) (mOp fMul (mC (.int 5000011)) (mOp fIx (mVar 0) (mC (.int 2))))) (mC (.int 3))) (mC (.int 2305843009213693921))) (mgName 3))
  (mSeq (mAsg (mOp (fI cMod fun i j => .int (i % j)) (mOp (fI cPow fun i j => .int (i ^ j.toNat)) (mOp fAdd (mVar 3) (mOp fMul (mC (.int 71993051)) (mOp fIx (mVar 0) (mC (.int 2))))) (mC (.int 2))) (mC (.int 2305843009213693951))) (mgName 3))
  (mRet (mOp (fI cMod fun i j => .int (i % j)) (mOp (fI cDiv fun i j => .int (i / j)) (mVar 3) (mC (.int 2048))) (mVar 1)))))))
def m__law_take_d4ae : MF := gcM (mFn 2 4 bm__law_take_d4ae)
def kc_SIGNS : V := (.str "abcdefghijklmnopqrstuvwxyzABCDEFGHIJKLMNOPQRSTUVWXYZ0123456789'-.:^_~")
def bm_is_sign : MS := (mRet (mAndV (mCB fIsi (mCons (mVar 0) (mCons (mC (.ty "str")) mNil))) (mAndV (mOp fEq (mCB fLen (mCons (mVar 0) mNil)) (mC (.int 1))) (mOp fIn (mVar 0) (mC kc_SIGNS)))))
def m_is_sign : MF := gcM (mFn 1 1 bm_is_sign)
def bm__is_word_up_to : MS := (mSeq (mIfS (mOr (mNot (mTest (mCB fIsi (mCons (mVar 0) (mCons (mC (.ty "str")) mNil))))) (mNot (mTest (mChain fLe fLe (mC (.int 1)) (mCB fLen (mCons (mVar 0) mNil)) (mVar 1))))) (mRet (mC (.bl false))) mNext)
  (mRet (mCB fAll (mCons (mLcA 0 (mgName 2) mYes (mOp fIn (mVar 2) (mC kc_SIGNS)) [2]) mNil))))
def m__is_word_up_to : MF := gcM (mFn 2 3 bm__is_word_up_to)
def kc_LONGEST_FOLD : V := (.int 3)
def bm__is_fold_word : MS := (mRet (mCall m__is_word_up_to [] (mCons (mVar 0) (mCons (mC kc_LONGEST_FOLD) mNil))))
def m__is_fold_word : MF := gcM (mFn 1 1 bm__is_fold_word)
def bm__check_folds : MS := (mFor (mItems (mCB fSorted (mCons (mVar 0) mNil))) (mgName 1) (mSeq (mIfS (mNot (mTest (mCall m_is_sign [] (mCons (mVar 1) mNil)))) (mRaise "NoSign" ["sign"] (mCons (mVar 1) mNil)) mNext)
  (mSeq (mIfS (mNot (mTest (mCall m__is_fold_word [] (mCons (mOp fIx (mVar 0) (mVar 1)) mNil)))) (mRaise "NoFold" ["sign"] (mCons (mVar 1) mNil)) mNext)
  (mIfS (mTest (mCB fAny (mCons (mLc (mItems (mOp fIx (mVar 0) (mVar 1))) (mgName 2) mYes (mOp fIn (mVar 2) (mVar 0)) [2]) mNil))) (mRaise "NoFold" ["sign"] (mCons (mVar 1) mNil)) mNext))))
def m__check_folds : MF := gcM (mFn 1 3 bm__check_folds)
def bm_is_number : MS := (mRet (mAndV (mCB fIsi (mCons (mVar 0) (mCons (mC (.ty "int")) mNil))) (mNotV (mCB fIsi (mCons (mVar 0) (mCons (mC (.ty "bool")) mNil))))))
def m_is_number : MF := gcM (mFn 1 1 bm_is_number)
def kc_MARK_CLASSES : D := (.tpk [(.v (.int 1)), (.v (.int 2)), (.v (.int 3))])
def bm__is_mark_class : MS := (mRet (mAndV (mCall m_is_number [] (mCons (mVar 0) mNil)) (mOp fIn (mVar 0) (mKon kc_MARK_CLASSES))))
def m__is_mark_class : MF := gcM (mFn 1 1 bm__is_mark_class)
def bm__check_marks : MS := (mFor (mItems (mCB fSorted (mCons (mVar 0) mNil))) (mgName 2) (mSeq (mIfS (mNot (mTest (mCall m_is_sign [] (mCons (mVar 2) mNil)))) (mRaise "NoSign" ["sign"] (mCons (mVar 2) mNil)) mNext)
  (mIfS (mOr (mNot (mTest (mCall m__is_mark_class [] (mCons (mOp fIx (mVar 0) (mVar 2)) mNil)))) (mTest (mOp fIn (mVar 2) (mVar 1)))) (mRaise "NoMark" ["sign"] (mCons (mVar 2) mNil)) mNext)))
def m__check_marks : MF := gcM (mFn 2 3 bm__check_marks)
def kc_MOST_FOLDS : V := (.int 40)
def kc_MOST_MARKS : V := (.int 8)
def bm__check_sizes : MS := (mSeq (mIfS (mTest (mOp fGt (mCB fLen (mCons (mVar 0) mNil)) (mC kc_MOST_FOLDS))) (mRaise "TooMany" ["limit"] (mCons (mC kc_MOST_FOLDS) mNil)) mNext)
  (mIfS (mTest (mOp fGt (mCB fLen (mCons (mVar 1) mNil)) (mC kc_MOST_MARKS))) (mRaise "TooMany" ["limit"] (mCons (mC kc_MOST_MARKS) mNil)) mNext))
def m__check_sizes : MF := gcM (mFn 2 2 bm__check_sizes)
def bm_Table___init__ : MS := (mSeq (mDrop (mCall m__check_folds [] (mCons (mVar 1) mNil)))
  (mSeq (mDrop (mCall m__check_marks [] (mCons (mVar 2) (mCons (mVar 1) mNil))))
  (mSeq (mDrop (mCall m__check_sizes [] (mCons (mVar 1) (mCons (mVar 2) mNil))))
  (mSeq (mSFld ["Table"] "_folds" (mVar 0) (mCB fDict (mCons (mVar 1) mNil)))
  (mSFld ["Speller", "Table"] "_marks" (mVar 0) (mCB fDict (mCons (mVar 2) mNil)))))))
def m_Table___init__ : MF := gcM (mFn 3 3 bm_Table___init__)
end Nm
set_option Elab.async false
set_option linter.all false
set_option maxHeartbeats 1000000
set_option Elab.async false
set_option linter.all false
set_option maxRecDepth 100000
set_option maxHeartbeats 4000000
namespace Nm
open PySem PySem.Spec PyProof.Rows L2 Evl
theorem kit_btX {K : Fg} {D : Addr} {n : String} {b : Bool} (h2 : PySem.W.kitMeta n = true) (h4 : PySem.W.subIn K (.ref D) (.type n) = some b) : PySem.W.kitOne K (.ref D) (.type n) = some b := by
  show (if (Value.ref D == Value.type n) = true then some true else if PySem.W.kitMeta n = true then PySem.W.subIn K (.ref D) (.type n) else none) = some b
  rw [if_neg (by simp), if_pos h2, h4]
def mXis (i : Nat) (c : Str) (b : Bool) : ME := fun env st => match env[i]? with
  | some (some (.exn c' fs)) => if c' = c ∧ fs ≠ [] then some (.ok (.v (.bl b)) st) else none
  | _ => none
section
variable {Γ : Gm}
def tXis (K : Fg) (C' a : Addr) (cls : Value) (d : Option Addr) (t : TA) : TE := tCB (fun xs H Q => cls = .ref C' ∧ (∃ dd fs, d = some dd ∧ H dd = some (.xd fs)) ∧ rIsX K C' a xs H Q) t
theorem sim_xis {W : WX} {a C C' : Addr} {d : Option Addr} {i : Nat} {c : Str} {n : String} {b : Bool} (hc : Γ.cl c = some C') (hk : PySem.W.kitOne Γ.K (.ref C') (.type n) = some b) :
    SimE Γ ⟨W, some (a, C, d)⟩ (tXis Γ.K C' a (.ref C) d (tCons (tVar i) (tCons (tC (.ty n)) tNil))) (mXis i c b) := by
  intro F R φ σ H env st hE hG Q h
  unfold mXis at h
  split at h
  · rename_i c' fs he
    obtain ⟨⟨rfl, hne⟩, h9⟩ := PX.ifp h
    clear h
    obtain ⟨v, h1, h2⟩ := hE.g i _ he
    rcases h2 with h2 | ⟨c2, fs2, a2, C2, x2, e1, e2, e3, e4, e5⟩
    · cases h2
    · cases e1
      cases e2
      subst e3
      rw [e4] at hc
      cases hc
      cases d with
      | none =>
        have e5 : fs = [] := e5
        exact absurd e5 hne
      | some dx =>
        obtain ⟨gs, g1, g2⟩ := e5
        refine ⟨_, h1, rfl, ⟨dx, gs, rfl, hG.f _ _ g1⟩, _, b, rfl, .inl ⟨_, ?_, hk⟩, PX.now h9 hG (.v _)⟩
        exact .ty n
  · exact h.elim
end
end Nm
set_option Elab.async false
set_option linter.all false
set_option maxRecDepth 100000
set_option maxHeartbeats 4000000
set_option Elab.async false
set_option linter.all false
set_option maxRecDepth 100000
set_option maxHeartbeats 4000000
set_option Elab.async false
set_option linter.all false
set_option maxRecDepth 100000
set_option maxHeartbeats 4000000
set_option Elab.async false
set_option linter.all false
set_option maxRecDepth 100000
set_option maxHeartbeats 4000000
set_option Elab.async false
set_option linter.all false
set_option maxRecDepth 100000
set_option maxHeartbeats 4000000
set_option Elab.async false
set_option linter.all false
set_option maxRecDepth 100000
set_option maxHeartbeats 4000000
set_option Elab.async false
set_option linter.all false
set_option maxRecDepth 100000
set_option maxHeartbeats 4000000
set_option Elab.async false
set_option linter.all false
set_option maxRecDepth 100000
set_option maxHeartbeats 4000000
set_option Elab.async false
set_option linter.all false
set_option maxRecDepth 100000
set_option maxHeartbeats 4000000
set_option Elab.async false
set_option linter.all false
set_option maxRecDepth 100000
set_option maxHeartbeats 4000000
namespace Nm
open PySem PySem.Spec PyProof.Rows L2 Evl
abbrev T5 := Int × Int × Str × Int × Str
/-- a five as values -/
def v5 (p : T5) : List V := [.int p.1, .int p.2.1, .str p.2.2.1, .int p.2.2.2.1, .str p.2.2.2.2]
end Nm
set_option Elab.async false
set_option linter.all false
set_option maxRecDepth 100000
set_option maxHeartbeats 4000000
namespace Nm
open PySem PySem.Spec PyProof.Rows L2 Evl
def csDs : List D → Option (List Str)
  | [] => some []
  | .cls c :: r => (csDs r).map (c :: ·)
  | _ => none
section
variable {Γ : Gm}
theorem csDs_ok {F : Hp} {φ : List Addr} : ∀ {xs : List V} {ds : List D} {cs : List Str} {Cs : List Addr}, RpAll Γ F φ xs ds → csDs ds = some cs → cs.map Γ.cl = Cs.map some → xs = Cs.map V.ref
  | _, _, cs, Cs, .nil, e, h => by
    cases e
    cases Cs with
    | nil => rfl
    | cons => cases h
  | _, _, cs, Cs, .cons (d := d) r1 r2, e, h => by
    unfold csDs at e
    split at e
    · cases ‹_ = []›
    · rename_i c r ed
      cases ed
      obtain ⟨t, e1, rfl⟩ := Option.map_eq_some_iff.mp e
      cases Cs with
      | nil => cases h
      | cons C Cs =>
        rw [List.map_cons, List.map_cons] at h
        injection h with h1 h2
        cases r1 with
        | cls hc =>
          rw [hc] at h1
          cases h1
          rw [csDs_ok r2 e1 h2]
          rfl
    · cases e
theorem cs_cons {Γ : Gm} {c : Str} {C : Addr} {cs : List Str} {Cs : List Addr} (h : Γ.cl c = some C) (t : cs.map Γ.cl = Cs.map some) : (c :: cs).map Γ.cl = (C :: Cs).map some := by
  rw [List.map_cons, List.map_cons, h, t]
theorem pairedC : ∀ Cs : List Addr, Paired ClsV (Cs.map V.ref) (Cs.map Value.ref)
  | [] => .nil
  | C :: Cs => .cons (.own C) (pairedC Cs)
end
end Nm
set_option Elab.async false
set_option linter.all false
set_option maxRecDepth 100000
set_option maxHeartbeats 4000000
set_option Elab.async false
set_option linter.all false
set_option maxRecDepth 100000
set_option maxHeartbeats 4000000
set_option Elab.async false
set_option linter.all false
set_option maxRecDepth 100000
set_option maxHeartbeats 4000000
set_option Elab.async false
set_option linter.all false
set_option maxRecDepth 100000
set_option maxHeartbeats 4000000
set_option Elab.async false
set_option linter.all false
set_option maxRecDepth 100000
set_option maxHeartbeats 4000000
namespace PySem.SeqAt
open AutoSeq1 (wpAny_loadPart')
open MeetsSeq MeetsSeq2 MeetsSeq3 SeqRoads2
end PySem.SeqAt
set_option Elab.async false
set_option linter.all false
set_option maxRecDepth 100000
set_option maxHeartbeats 4000000
set_option Elab.async false
set_option linter.all false
set_option maxRecDepth 100000
set_option maxHeartbeats 4000000
namespace Nm
open PySem PySem.Spec PyProof.Rows L2
theorem kit_clX {K : Fg} {t : Value} {C : Addr} {b : Bool} (h0 : (t == .ref C) = false) (h1 : PySem.W.isClsIn K C = true) (h2 : PySem.W.typeIn K (.ref C) = some (.type "type")) (h3 : PySem.W.subIn K t (.ref C) = some b) : PySem.W.kitOne K t (.ref C) = some b := by
  unfold PySem.W.kitOne
  rw [if_neg (by rw [h0]; decide)]
  unfold PySem.W.kitCls
  dsimp only
  rw [if_pos (by rw [Bool.and_eq_true]; exact ⟨h1, beq_iff_eq.mpr h2⟩)]
  exact h3
theorem kit_self {K : Fg} {C : Addr} : PySem.W.kitOne K (.ref C) (.ref C) = some true := by
  unfold PySem.W.kitOne
  rw [if_pos (beq_iff_eq.mpr rfl)]
theorem kya_no {K : Fg} {t c : Value} {r : List Value} {b : Bool} (h : PySem.W.kitOne K t c = some false) (k : PySem.W.kitAny K t r = some b) : PySem.W.kitAny K t (c :: r) = some b := by
  unfold PySem.W.kitAny
  rw [h]
  exact k
end Nm
set_option Elab.async false
set_option linter.all false
set_option maxRecDepth 100000
set_option maxHeartbeats 4000000
set_option Elab.async false
set_option linter.all false
set_option maxRecDepth 100000
set_option maxHeartbeats 4000000
namespace Nm
open PySem PySem.Spec PyProof.Rows L2 Evl
structure ErX (K : Fg) (nm : Str) (b : Eb) (C : Addr) : Prop where
  er : ErC K nm b C
  ga : PySem.W.findIn K (.ref C) "__getattribute__" = some (some (.builtin "BaseException.__getattribute__"))
  gg : PySem.W.findIn K (.ref C) "__getattr__" = some none
  ca : PySem.W.findIn K (.ref C) "__class__" = some (some (.builtin "object.__class__"))
  cg : PySem.W.specialIn K (.builtin "object.__class__") "__get__" = some (some (.builtin "getset_descriptor.__get__"))
  ct : PySem.W.takesIn K (.builtin "object.__class__") = some true
theorem ErC.mro {K : Fg} {nm : Str} {b : Eb} {C : Addr} (T : ErC K nm b C) (n : String) : PySem.W.mroIn K C (.type n) = some (b.up.contains (.type n)) := by
  obtain ⟨cd, c1, m1, _⟩ := T.data
  unfold PySem.W.mroIn
  rw [c1, Option.bind_some, m1, if_neg (fun z => nomatch z), List.contains_cons]
  rfl
theorem ErX.k {K : Fg} {nm : Str} {b : Eb} {C : Addr} (T : ErX K nm b C) : ExK K C := by
  obtain ⟨cd, c1, m1, _⟩ := T.er.data
  exact ⟨by rw [c1]; rfl, T.ga, T.gg, T.er.be, T.ca, T.cg, T.ct, by rw [T.er.mro, b.has.2.2.2.1]⟩
theorem ErX.f {K : Fg} {nm : Str} {b : Eb} {C : Addr} (T : ErX K nm b C) : XfC K C := by
  obtain ⟨cd, c1, m1, hd⟩ := T.er.data
  exact ⟨T.ga, T.gg, T.er.be, by unfold PySem.W.hasDictIn; rw [c1]; exact hd⟩
def ebLk : List (Str × Eb) → Str → Option Eb
  | [], _ => none
  | p :: r, c => if p.1 = c then some p.2 else ebLk r c
section
variable {Γ : Gm} {Ξ : Xi} {te : TE} {me : ME} {tA : TA} {mA : MA}
theorem ev_nil : ∀ p ∈ ([] : List (Str × Eb)), ∃ C, Γ.cl p.1 = some C ∧ ErX Γ.K p.1 p.2 C := fun p hp => nomatch hp
theorem ev_cons {c : Str} {b : Eb} {C : Addr} {ks : List (Str × Eb)} (hc : Γ.cl c = some C) (T : ErX Γ.K c b C) (r : ∀ p ∈ ks, ∃ C, Γ.cl p.1 = some C ∧ ErX Γ.K p.1 p.2 C) : ∀ p ∈ (c, b) :: ks, ∃ C, Γ.cl p.1 = some C ∧ ErX Γ.K p.1 p.2 C := fun p hp => by
  rcases List.mem_cons.mp hp with rfl | hp
  · exact ⟨C, hc, T⟩
  · exact r p hp
theorem ebLk_mem : ∀ {ks : List (Str × Eb)} {c : Str} {b : Eb}, ebLk ks c = some b → (c, b) ∈ ks
  | p :: r, c, b, h => by
    unfold ebLk at h
    split at h
    · rename_i e; cases h; subst e; exact List.mem_cons_self
    · exact List.mem_cons_of_mem _ (ebLk_mem h)
end
end Nm
set_option Elab.async false
set_option linter.all false
set_option maxRecDepth 100000
set_option maxHeartbeats 4000000
namespace Nm
open PySem PySem.Spec PyProof.Rows L2 Evl
def rIsA (K : Fg) (a : Addr) (cls : Value) (d : Option Addr) : List V → Hp → VK → Prop := fun xs H Q => ∃ D, cls = .ref D ∧ ExK K D ∧ (∃ dd fs, d = some dd ∧ H dd = some (.xd fs)) ∧ rIsX K D a xs H Q
section
variable {X : Cx} {K : Fg} {a : Addr} {oe : Obj} {cls : Value} {d : Option Addr}
theorem call_isA (hK : X.K = K) (hz : Zc cls d oe) (hf : ∃ vs, oe.data = .fields vs) (hp : (a, oe) ∈ X.pn) : CallR X (.builtin "isinstance") (rIsA K a cls d) := by
  subst hK
  rintro pins s σ H xs us Q I r ⟨D, rfl, T, ⟨dd, fs, rfl, hd⟩, c, b, rfl, h, q⟩
  have at_ := (I.pin (a, oe) (List.mem_append.mpr (.inl hp))).1
  obtain ⟨od, ho, _⟩ := lookIn_ns (show ObjOk X.prog X.w H s.heap dd (.xd fs) from I.hok dd _ hd).choose_spec.1
  have J : PySem.W.InstAt s.heap a oe D (some od) := ⟨at_, hz.1, by obtain ⟨vs, hv⟩ := hf; unfold PySem.W.notCls; rw [hv] <;> rfl, by rw [hz.2]; exact ho⟩
  have Z := PySem.W.kitx_exc (x := a) (od := some od) (ox := oe) T.cl T.ga T.gt T.sb T.ca T.cg T.ct T.mo
  obtain ⟨u1, u2, rfl, r1, r2⟩ := vals2 r
  cases (show u1 = Value.ref a from r1)
  rcases h with ⟨u, k, e⟩ | ⟨tp, cs, ws, rfl, hT, k, e⟩
  · cases k.eq r2
    exact PySem.W.kia_one Z I.kIn J e (fun z => nomatch z) fun tk => ⟨.bl b, H, I.tok tk, rfl, q⟩
  · cases (show u2 = Value.ref tp from r2)
    obtain ⟨_, its, rv, ⟨oc, od', dt, sl⟩, h1, rfl, n, rfl⟩ := (show ObjOk X.prog X.w H s.heap tp (.tup cs) from I.hok tp _ hT)
    cases ClsV.all k rv
    exact PySem.W.kia_tup Z I.kIn J h1 e (fun z => nomatch z) fun tk => ⟨.bl b, H, I.tok tk, rfl, q⟩
end
structure FnA (P : Program) (w : World) (Γ : Gm) (mg : Str → Option Value) (base : Heap) (CX : CXT) (k : Nat) (f : Addr) (fd : FuncData) (y : Str) (m : MF) : Prop where
  run : ∀ (A : Around) (outer : List Env) (s : Shared) (H : Hp) (args : Args) (F : Hp) (R : Rr) (φ : List Addr) (st : GS) (Q : VK) (p : Addr × Obj) (C : Addr) (d : Option Addr) (c : Str) (fs : List (Str × D)),
    L2H.RoomH k A → L2H.PinOk outer H s p → Zc (.ref C) d p.2 → (∃ vs, p.2.data = .fields vs) → Env0 P w Γ.K mg base A outer s H → BindsTo s fd args [(y, .ref p.1)] → Γ.cl c = some C → XdR Γ F φ d fs → GR Γ F R φ H st →
    PX Rp Γ (fun _ _ _ => False) F R φ (m [.exn c fs] st) Q → codeAny (model P w) A (.call (.ref f) args) (CR CX outer P w H s Q fun _ _ _ => False) s
theorem FnA.gc {P : Program} {w : World} {Γ : Gm} {mg : Str → Option Value} {base : Heap} {CX : CXT} {k : Nat} {f : Addr} {fd : FuncData} {y : Str} {m : MF} (T : FnA P w Γ mg base CX k f fd y m) : FnA P w Γ mg base CX k f fd y (gcM m) :=
  ⟨fun A outer s H args F R φ st Q p C d c fs h1 h2 h3 h4 h5 h6 h7 h8 g h => T.run A outer s H args F R φ st Q p C d c fs h1 h2 h3 h4 h5 h6 h7 h8 g (h.gc g.l fun a e => (g.e a e).2.2)⟩
theorem FnA.mono {P : Program} {w : World} {Γ : Gm} {mg : Str → Option Value} {base : Heap} {CX : CXT} {j k : Nat} {f : Addr} {fd : FuncData} {y : Str} {m : MF} (T : FnA P w Γ mg base CX j f fd y m) (l : j ≤ k) : FnA P w Γ mg base CX k f fd y m :=
  ⟨fun A outer s H args F R φ st Q p C d c fs h1 => T.run A outer s H args F R φ st Q p C d c fs (h1.mono l)⟩
section
variable {P : Program} {w : World} {Γ : Gm} {mg : Str → Option Value} {base : Heap} {CX : CXT} {k : Nat} {f : Addr} {fd : FuncData} {y x qual : Str} {st : Stmt} {N : List Str} {mb : MS}
theorem fnA_of (T : Fun Γ.K x qual st f fd) (S : FnScope N [y] (defScope st))
    (body : ∀ (cdv : Value) (A : Around) (outer : List Env) (s : Shared) (H : Hp) (E : XK) (p : Addr × Obj) (C : Addr) (d : Option Addr), L2H.RoomH k (A.deeper (envOfC qual (defScope st) s.heap.objs.size f cdv)) → Zc (.ref C) d p.2 → (∃ vs, p.2.data = .fields vs) →
      ∃ t, PSs (L2H.cxH CX P w Γ.K mg base N qual (defScope st) f cdv A outer s H E p) (defBody st) t ∧ SimS Γ ⟨fun _ _ _ _ => False, some (p.1, C, d)⟩ t mb) :
    FnA P w Γ mg base CX (k + 1) f fd y (mFn 1 N.length mb) := by
  obtain ⟨oc, od, kV, doc, pm, an, cdv, ct, osl, rfl, lk, hcd⟩ := T.ex
  refine ⟨fun A outer s H args F R φ st' Q p C d c fs room pin hz hf e0 hb hc hd hG h => ?_⟩
  obtain ⟨t, pt, sm⟩ := body cdv A outer s H (fun _ _ _ => False) p C d (room.deeper _) hz hf
  have kin : Γ.K.In s.heap := e0.mod.kin.keeps fun b o e => (e0.bs b o e).1
  have nolim : s.heap.NoLimit := e0.mod.nolimit.keeps fun b o e => (e0.bs b o e).1
  have hsl : ∀ z ∈ [(y, Value.ref p.1)], (defScope st).names.lookup z.1 = some .local ∨ ((defScope st).names.lookup z.1 = some .cell ∧ ((cellsFrom (s.heap.objs.size + 1) (defScope st).names []).lookup z.1).isSome = true) := fun z hz => by
    cases List.mem_singleton.mp hz
    exact (S.par y List.mem_cons_self).imp id fun q => ⟨q, PySem.W.cellsFrom_some _ _ _ (.inl q)⟩
  refine codeAny_call_function room.depth (kin _ _ lk) rfl S.co S.gen rfl (PySem.W.codeRec_of kin hcd) (hb _ _ _ _ (wpAny_newFunctionEnv_cells S.kind hsl fun env he s1 z => ?_))
  subst he
  refine ⟨nolim.keeps z.toInCall.keep, codeAny_func ?_⟩
  have I : Inv (L2H.cxH CX P w Γ.K mg base N qual (defScope st) f cdv A outer s H (fun _ _ _ => False) p) [] (L2.start N [.ref p.1]) H s1 := L2H.inv_startH (ps := [y]) (us := [.ref p.1]) S pin e0 rfl (.cons rfl .nil) z
  have eR : EnvR Γ (some (p.1, C, d)) F φ (L2.start N [.ref p.1]) (List.map some [.exn c fs] ++ List.replicate (N.length - 1) none) := by
    refine ⟨by unfold L2.start; simp, fun i x hx => ?_⟩
    cases i with
    | zero => cases hx; exact ⟨.ref p.1, rfl, .inr ⟨c, fs, p.1, C, d, rfl, rfl, rfl, hc, hd⟩⟩
    | succ i =>
      rw [List.getElem?_append_right (by simp)] at hx
      have := List.mem_of_getElem? hx
      rw [List.mem_replicate] at this
      cases this.2
  have ends : t { nx := fun _ H' => Q .non H', rt := Q } (L2.start N [.ref p.1]) H := by
    refine sm F R φ _ H _ st' eR hG _ ?_
    generalize ed : [D.exn c fs] = ds at h ⊢
    unfold mFn at h
    obtain ⟨_, h⟩ := PX.ifp h
    match hm : mb (ds.map some ++ List.replicate (N.length - 1) none) st', h with
    | some (.rt d s), h => exact fun F' φ' v H' x p r g => h F' φ' v H' x p g r
    | some (.nx e s), h => exact fun F' φ' σ' H' x p r g => h F' φ' .non H' x p g (.v _)
    | some (.ex c fs e s), h => exact fun F' φ' σ' C dx H' x p r g hc hd => h F' φ' C dx H' x p g hc hd
    | some (.bk e s), h => exact h.elim
    | some (.ct e s), h => exact h.elim
    | none, h => exact h.elim
  have fin : ∀ {τ : L2.St} {G : Hp} {v : V} {u : Value} {s' : Shared}, Inv (L2H.cxH CX P w Γ.K mg base N qual (defScope st) f cdv A outer s H (fun _ _ _ => False) p) [] τ G s' → RelV v u → Q v G → CE outer P w H s Q u s' :=
    fun J rv q => ⟨_, _, J.os, J.bare, J.base, J.hok, rv, q⟩
  refine wpAny_mono (pt.run [] s1 _ H _ I ends) (fun fl s' hs => ?_) fun e s' hs => hs
  rcases fl with _ | _ | _ | u
  · obtain ⟨τ, G, J, q⟩ := hs
    exact fin (v := V.non) (u := Value.none) J rfl q
  · exact hs.choose_spec.choose_spec.2.elim
  · exact hs.choose_spec.choose_spec.2.elim
  · obtain ⟨v, τ, G, J, rv, q⟩ := hs
    exact fin J rv q
end
structure CalA (P : Program) (w : World) (Γ : Gm) (mg : Str → Option Value) (base : Heap) (k : Nat) (x y : Str) (m : MF) (f : Addr) (fd : FuncData) : Prop where
  ok : FnA P w Γ mg base (L2.CX P w) k f fd y m
  mg : mg x = some (.ref f)
  kp : PySem.W.keepIn Γ.K (.ref f) = true
  b : Binds Γ.K fd [y] []
theorem CalA.up {P : Program} {w : World} {Γ : Gm} {mg : Str → Option Value} {base : Heap} {j k : Nat} {x y : Str} {m : MF} {f : Addr} {fd : FuncData} (T : CalA P w Γ mg base j x y m f fd) (l : j ≤ k) : CalA P w Γ mg base k x y m f fd := ⟨T.ok.mono l, T.mg, T.kp, T.b⟩
theorem _root_.L2H.RoomH.units {k : Nat} {A : Around} (r : L2H.RoomH k A) : A.units + 64 < cLine := by have := r.un; omega
theorem _root_.L2H.RoomH.units0 {k : Nat} {A : Around} (r : L2H.RoomH k A) : A.units < cLine := by have := r.un; omega
theorem hu_ofH {k : Nat} {A : Around} (r : L2H.RoomH k A) : A.units + 1 < cLine := by have := r.un; omega
theorem hu65_ofH {k : Nat} {A : Around} (r : L2H.RoomH k A) : A.units + 65 < cLine := by have := r.un; omega
theorem roomH_mk {k : Nat} {A : Around} (r : Room k A) (h : Option Value) : L2H.RoomH k (A.mark h) := ⟨r.dp, r.un⟩
def tCallA (Γ : Gm) (a : Addr) (cls : Value) (d : Option Addr) (m : MF) (t : TA) : TE := fun σ H Q => t σ H fun vs G => vs = [.ref a] ∧ ∃ (C : Addr) (c : Str) (fs : List (Str × D)) (F : Hp) (R : Rr) (φ : List Addr) (st : GS),
  cls = .ref C ∧ Γ.cl c = some C ∧ XdR Γ F φ d fs ∧ GR Γ F R φ G st ∧ PX Rp Γ (fun _ _ _ => False) F R φ (m [.exn c fs] st) Q
theorem pe_callA {X : Cx} {Γ : Gm} {k : Nat} {f a : Addr} {oe : Obj} {cls : Value} {d : Option Addr} {fd : FuncData} {x y : Str} {m : MF} {e : Expr} {t : TA} {p pos : Pos} (T : FnA X.prog X.w Γ X.mg X.base (L2.CX X.prog X.w) k f fd y m) (hK : X.K = Γ.K) (room : L2H.RoomH k X.A)
    (hz : Zc cls d oe) (hf : ∃ vs, oe.data = .fields vs) (hp : (a, oe) ∈ X.pn) (g : Gl X x) (at_ : X.mg x = some (.ref f)) (kp : PySem.W.keepIn X.K (.ref f) = true) (b : Binds X.K fd [y] []) (ha : PA X [e] t)
    (db : (x == ("__debug__" : Str)) = false := by decide) (h1 : starEach [e] X.env = (false, eval e X.env) :: starEach [] X.env := by rfl) (h2 : (backTo pos (starEach [] X.env)).any (·.1) = false := by rfl) :
    PE X (.Call (.Name x p) [e] [] pos) (tCallA Γ a cls d m t) := by
  constructor
  intro pins s σ H Q I h
  refine wpAny_Call_Name_kw (ld_glob I g at_ (PySem.W.callWith_K (h₀ := X.base) I.ok.mod.kin kp (thn (ha.run pos pins s σ H _ I h) fun us s1 z => ?_) h1 h2) db)
  obtain ⟨vs, G, J, r, rfl, C, c, fs, F, R, φ, st, rfl, hc, hd, hG, q⟩ := z
  cases r with
  | cons r1 r2 =>
    rename_i u us'
    cases r2
    cases (show u = Value.ref a from r1)
    have P1 := J.pin (a, oe) (List.mem_append_left _ hp)
    have pin : L2H.PinOk X.stack G s1 (a, oe) := ⟨P1.1, P1.2.1, fun hm => (List.mem_cons.mp (J.stkSub a hm)).elim P1.2.2.1 P1.2.2.2.1, P1.2.2.2.2⟩
    have bb := b s1 [.ref a] J.kIn (by rw [List.append_nil]; rfl)
    have e0 := J.env0
    rw [hK] at e0
    refine ⟨J.kIn, wpAny_call (codeAny_mono (T.run X.A X.stack s1 G ⟨[.ref a], []⟩ F R φ st Q (a, oe) C d c fs room pin hz hf e0 bb hc hd hG q) ?_)⟩
    rintro (er | (_ | _ | _ | u)) s' z
    · exact passF (σ := σ) pins _ _ er s' J z
    · exact (show False from z).elim
    · exact (show False from z).elim
    · exact (show False from z).elim
    · exact J.after z
def mCallA (i : Nat) (m : MF) : ME := fun env st => match env[i]? with
  | some (some (.exn c fs)) => nrM m [.exn c fs] st
  | _ => none
/-- isinstance with a built-in class -/
def mXisB (i : Nat) (ks : List (Str × Eb)) (n : String) : ME := fun env st => match env[i]? with
  | some (some (.exn c fs)) => if fs ≠ [] then (match ebLk ks c with | some b => some (.ok (.v (.bl (b.up.contains (.type n)))) st) | none => none) else none
  | _ => none
def inKs (ks : List (Str × Eb)) (cs : List Str) : Bool := cs.all fun c => (ebLk ks c).isSome
/-- isinstance with an own class, with a tuple of own classes -/
def mXisC (i : Nat) (ks : List (Str × Eb)) (me : ME) : ME := fun env st => match env[i]? with
  | some (some (.exn c fs)) => if fs ≠ [] ∧ (ebLk ks c).isSome = true then bn (me env st) fun d s => match d with
    | .cls c' => if (ebLk ks c').isSome = true then some (.ok (.v (.bl (decide (c = c')))) s) else none
    | .tup ds => (match csDs ds with | some cs => if inKs ks cs = true then some (.ok (.v (.bl (decide (c ∈ cs)))) s) else none | none => none)
    | _ => none
    else none
  | _ => none
section
variable {Γ : Gm} {W : WX} {a C : Addr} {d : Option Addr} {i : Nat} {ks : List (Str × Eb)}
theorem exn_at {F : Hp} {φ : List Addr} {σ : L2.St} {env : EnvD} {c : Str} {fs : List (Str × D)} (hE : EnvR Γ (some (a, C, d)) F φ σ env) (he : env[i]? = some (some (.exn c fs))) : σ[i]? = some (some (.ref a)) ∧ Γ.cl c = some C ∧ XdR Γ F φ d fs := by
  obtain ⟨v, h1, h2⟩ := hE.g i _ he
  rcases h2 with h2 | ⟨c2, fs2, a2, C2, x2, e1, e2, e3, e4, e5⟩
  · cases h2
  · cases e1
    cases e2
    subst e3
    exact ⟨h1, e4, e5⟩
theorem sim_callA {m : MF} : SimE Γ ⟨W, some (a, C, d)⟩ (tCallA Γ a (.ref C) d m (tCons (tVar i) tNil)) (mCallA i m) := by
  intro F R φ σ H env st hE hG Q h
  unfold mCallA at h
  split at h
  · rename_i c fs he
    obtain ⟨h1, h2, h3⟩ := exn_at hE he
    exact ⟨_, h1, rfl, C, c, fs, F, R, φ, st, rfl, h2, h3, hG, h.nrM0⟩
  · exact h.elim
theorem kit_two {K : Fg} {n1 n2 : Str} {b1 b2 : Eb} {C1 C2 : Addr} (T1 : ErC K n1 b1 C1) (T2 : ErC K n2 b2 C2) : PySem.W.kitOne K (.ref C1) (.ref C2) = some (decide (C2 = C1)) := by
  by_cases e : C2 = C1
  · subst e
    rw [decide_eq_true rfl]
    exact kit_self
  · rw [decide_eq_false e]
    obtain ⟨cd2, c2, _⟩ := T2.data
    obtain ⟨cd1, c1, m1, _⟩ := T1.data
    refine kit_clX (beq_eq_false_iff_ne.mpr fun z => e (by cases z; rfl)) (by unfold PySem.W.isClsIn; rw [c2]; rfl) T2.ty ?_
    show PySem.W.mroIn K C1 (.ref C2) = _
    unfold PySem.W.mroIn
    rw [c1, Option.bind_some, m1, if_neg (fun z => nomatch z), List.contains_cons, b1.noRef, Bool.or_false]
    congr 1
    exact beq_eq_false_iff_ne.mpr fun z => e (by injection z)
theorem kit_names {n1 n2 : Str} {b1 b2 : Eb} {C1 C2 : Addr} (T1 : ErC Γ.K n1 b1 C1) (T2 : ErC Γ.K n2 b2 C2) (h1 : Γ.cl n1 = some C1) (h2 : Γ.cl n2 = some C2) : PySem.W.kitOne Γ.K (.ref C1) (.ref C2) = some (decide (n1 = n2)) := by
  rw [kit_two T1 T2]
  congr 1
  by_cases e : n1 = n2
  · subst e
    rw [h1] at h2
    cases h2
    rw [decide_eq_true rfl, decide_eq_true rfl]
  · rw [decide_eq_false e, decide_eq_false]
    intro z
    subst z
    exact e (T1.name T2)
theorem kit_any {n1 : Str} {b1 : Eb} {C1 : Addr} (T1 : ErC Γ.K n1 b1 C1) (h1 : Γ.cl n1 = some C1) (hk : ∀ p ∈ ks, ∃ C, Γ.cl p.1 = some C ∧ ErX Γ.K p.1 p.2 C) : ∀ {cs : List Str}, inKs ks cs = true → ∃ Cs : List Addr, cs.map Γ.cl = Cs.map some ∧ PySem.W.kitAny Γ.K (.ref C1) (Cs.map Value.ref) = some (decide (n1 ∈ cs))
  | [], _ => ⟨[], rfl, rfl⟩
  | c :: cs, h => by
    unfold inKs at h
    rw [List.all_cons, Bool.and_eq_true] at h
    obtain ⟨Cs, e1, e2⟩ := kit_any T1 h1 hk (cs := cs) h.2
    obtain ⟨b, eb⟩ := Option.isSome_iff_exists.mp h.1
    obtain ⟨C2, hc, T2⟩ := hk _ (ebLk_mem eb)
    refine ⟨C2 :: Cs, cs_cons hc e1, ?_⟩
    have kn := kit_names T1 T2.er h1 hc
    rw [List.map_cons]
    by_cases e : n1 = c
    · rw [decide_eq_true e] at kn
      rw [decide_eq_true (by rw [e]; exact List.mem_cons_self)]
      unfold PySem.W.kitAny
      rw [kn]
    · rw [decide_eq_false e] at kn
      rw [kya_no kn e2]
      congr 1
      by_cases z : n1 ∈ cs
      · rw [decide_eq_true z, decide_eq_true (List.mem_cons_of_mem _ z)]
      · rw [decide_eq_false z, decide_eq_false (fun q => (List.mem_cons.mp q).elim e z)]
theorem xd_at {F : Hp} {φ : List Addr} {fs : List (Str × D)} (h : XdR Γ F φ d fs) (hne : fs ≠ []) : ∃ dd gs, d = some dd ∧ F dd = some (.xd gs) := by
  cases d with
  | none => exact absurd h hne
  | some dx => obtain ⟨gs, g1, _⟩ := h; exact ⟨dx, gs, rfl, g1⟩
theorem sim_xisB {n : String} (hn : PySem.W.kitMeta n = true) (hk : ∀ p ∈ ks, ∃ C, Γ.cl p.1 = some C ∧ ErX Γ.K p.1 p.2 C) : SimE Γ ⟨W, some (a, C, d)⟩ (tCB (rIsA Γ.K a (.ref C) d) (tCons (tVar i) (tCons (tC (.ty n)) tNil))) (mXisB i ks n) := by
  intro F R φ σ H env st hE hG Q h
  unfold mXisB at h
  split at h
  · rename_i c fs he
    obtain ⟨h1, h2, h3⟩ := exn_at hE he
    obtain ⟨hne, h9⟩ := PX.ifp h
    clear h
    obtain ⟨dd, gs, rfl, hd⟩ := xd_at h3 hne
    cases e : ebLk ks c with
    | none => rw [e] at h9; exact h9.elim
    | some b =>
      rw [e] at h9
      obtain ⟨C', hc, T⟩ := hk _ (ebLk_mem e)
      rw [h2] at hc
      cases hc
      exact ⟨_, h1, C, rfl, T.k, ⟨dd, gs, rfl, hG.f _ _ hd⟩, _, _, rfl, .inl ⟨_, .ty n, kit_btX hn (T.er.mro n)⟩, PX.now h9 hG (.v _)⟩
  · exact h.elim
theorem sim_xisC {tx : TE} {mx : ME} (hk : ∀ p ∈ ks, ∃ C, Γ.cl p.1 = some C ∧ ErX Γ.K p.1 p.2 C) (hx : SimE Γ ⟨W, some (a, C, d)⟩ tx mx) : SimE Γ ⟨W, some (a, C, d)⟩ (tCB (rIsA Γ.K a (.ref C) d) (tCons (tVar i) (tCons tx tNil))) (mXisC i ks mx) := by
  intro F R φ σ H env st hE hG Q h
  unfold mXisC at h
  split at h
  · rename_i c fs he
    obtain ⟨h1, h2, h3⟩ := exn_at hE he
    obtain ⟨⟨hne, hs⟩, h9⟩ := PX.ifp h
    clear h
    obtain ⟨dd, gs, rfl, hd⟩ := xd_at h3 hne
    obtain ⟨b, e⟩ := Option.isSome_iff_exists.mp hs
    obtain ⟨C', hc, T⟩ := hk _ (ebLk_mem e)
    rw [h2] at hc
    cases hc
    refine ⟨_, h1, hx F R φ σ H env st hE hG _ (h9.bn fun y s1 F1 φ1 v1 H1 _ x1 p1 g1 r1 h => ?_)⟩
    have hd1 := g1.f _ _ (x1 _ _ hd)
    split at h
    · rename_i c'
      obtain ⟨hs', h⟩ := h.ifp
      obtain ⟨b', e'⟩ := Option.isSome_iff_exists.mp hs'
      obtain ⟨C', hc', T'⟩ := hk _ (ebLk_mem e')
      cases r1 with
      | cls hcl =>
        rw [hcl] at hc'
        cases hc'
        exact ⟨C, rfl, T.k, ⟨dd, gs, rfl, hd1⟩, _, _, rfl, .inl ⟨_, .own _, kit_names T.er T'.er h2 hcl⟩, PX.now h g1 (.v _)⟩
    · rename_i ds _
      cases ecs : csDs ds with
      | none => rw [ecs] at h; exact h.elim
      | some cs =>
        rw [ecs] at h
        obtain ⟨hi, h⟩ := h.ifp
        obtain ⟨Cs, e1, e2⟩ := kit_any T.er h2 hk hi
        obtain ⟨tp, xs, rfl, hp, rr⟩ := r1.tup'
        have ex := csDs_ok rr ecs e1
        subst ex
        exact ⟨C, rfl, T.k, ⟨dd, gs, rfl, hd1⟩, _, _, rfl, .inr ⟨tp, _, _, rfl, g1.f _ _ hp, pairedC Cs, e2⟩, PX.now h g1 (.v _)⟩
    · exact h.elim
  · exact h.elim
end
end Nm
set_option Elab.async false
set_option linter.all false
set_option maxRecDepth 100000
set_option maxHeartbeats 4000000
namespace Nm
open PySem PySem.Spec PyProof.Rows L2 Evl
def rCntL (K : Fg) : V → List V → Hp → VK → Prop := fun x xs H Q => ∃ (a : Addr) (ys : List V) (y : V), x = .ref a ∧ xs = [y] ∧ SqL K H a ys ∧ flatV y = true ∧ ys.all flatV = true ∧ Q (.int (ys.countP (fun z => eqV z y) : Nat)) H
theorem cntL_eq {y : V} {uy : Value} (ry : RelV y uy) (fy : flatV y = true) : ∀ {ys : List V} {us : List Value}, Vals ys us → ys.all flatV = true → us.countP (eqU y) = ys.countP (fun z => eqV z y)
  | _, _, .nil, _ => rfl
  | z :: ys, u :: us, .cons r rr, f => by
    rw [List.all_cons, Bool.and_eq_true] at f
    rw [List.countP_cons, List.countP_cons, cntL_eq ry fy rr f.2, eqU_of r f.1]
theorem mt_cntL {X : Cx} : MtR X "list.count" (rCntL X.K) := by
  intro pins s σ H x xs v us Q I rx rxs h
  obtain ⟨a, ys, y, rfl, rfl, hs, fy, fys, q⟩ := h
  cases rx
  cases rxs with
  | cons ry rt =>
    rename_i uy ut
    cases rt
    obtain ⟨its, rv, ⟨⟨cls, dd, data, sl⟩, n, ho, hc, hdn, hd⟩, hlen⟩ := I.list hs
    simp only at hc hd
    subst hc hd
    refine call_meets PySem.F.slot_list_count ⟨_, ho, rfl⟩ PySem.F.entry_list_count (PySem.F.args_list_count_2 _ _) (SeqAt.list_countAt a its.toArray n dd sl uy (eqU y)) ⟨ho, fun u' hu' => mem_eqAt ry fy rv fys u' (by simpa using hu'), ?_⟩
    rw [show its.toArray.toList = its from rfl, cntL_eq ry fy rv fys]
    exact ⟨V.int (ys.countP (fun z => eqV z y) : Nat), H, I.tok _, ⟨_, rfl⟩, q⟩
theorem mtCntL {X : Cx} {K : Fg} (h : X.K = K) : MtR X "list.count" (rCntL K) := by subst h; exact mt_cntL
section
variable {Γ : Gm} {Ξ : Xi} {ta : TE} {ma : ME} {tA : TA} {mA : MA}
def mCntL (a : ME) (r : MA) : ME := fun env st => bn (a env st) fun x s => match lvQ s x with
  | none => none
  | some _ => bn (r env s) fun ys s => match ys, (lvQ s x).bind vsD with
    | [.v y], some vs => if (flatV y && vs.all flatV) = true then some (.ok (.v (.int (vs.countP (fun z => eqV z y) : Nat))) s) else none
    | _, _ => none
theorem sim_cntL (ha : SimE Γ Ξ ta ma) (hr : SimA Γ Ξ tA mA) : SimE Γ Ξ (tBM Γ.K "list" (rCntL Γ.K) ta tA) (mCntL ma mA) := by
  intro F R φ σ H env st hE hG Q h
  refine ha F R φ σ H env st hE hG _ (h.bn fun x s1 F1 φ1 v1 H1 e0 x1 p1 g1 r1 h => ?_)
  clear e0
  split at h
  · exact h.elim
  · rename_i ds0 e0
    obtain ⟨a, xs0, rfl, h0, _⟩ := g1.lvQ e0 r1
    refine ⟨.inl ⟨rfl, xs0, h0⟩, hr F1 R φ1 σ H1 env s1 (hE.to x1 p1) g1 _ (h.bn fun ys s2 F2 φ2 vs H2 e0 x2 p2 g2 r2 h => ?_)⟩
    clear e0
    split at h
    · rename_i y vs' hs
      cases r2 with
      | cons r2 r3 =>
        cases r3
        obtain ⟨ds, q1, q2⟩ := Option.bind_eq_some_iff.mp hs
        obtain ⟨hf, h⟩ := h.ifp
        obtain ⟨f1, f2⟩ := Bool.and_eq_true_iff.mp hf
        obtain ⟨a', xs, e, h3, r3⟩ := g2.lvQ q1 (r1.mono (Le.of x2) p2)
        cases e
        have := vsD_eq r3 q2
        subst this
        exact ⟨a, xs, y, rfl, by rw [r2.vi], h3, f1, f2, PX.now (d := D.v (.int (xs.countP (fun z => eqV z y) : Nat))) h g2 (.v _)⟩
    · exact h.elim
end
end Nm
set_option Elab.async false
set_option linter.all false
set_option maxRecDepth 100000
set_option maxHeartbeats 4000000
namespace Nm
open PySem PySem.Spec PyProof.Rows L2 Evl
def rNinT (K : Fg) : R2 := fun x y H Q => rNInA K x y H Q ∨ ∃ (a b : Addr) (xs : List V) (ns : List Int), x = .ref a ∧ y = .ref b ∧ (SqL K H a xs ∨ SqT K H a xs) ∧ SqT K H b (ns.map V.int) ∧ Q (.bl true) H
theorem ints_mem : ∀ {is : List Value} {ns : List Int}, Vals (ns.map V.int) is → ∀ y ∈ is, ∃ z t, y = Value.int z t
  | _, [], .nil, y, h => nomatch h
  | _, z :: ns, .cons r h, y, hy => by
    rcases List.mem_cons.mp hy with rfl | hy
    · obtain ⟨t, e⟩ := r
      exact ⟨z, t, e⟩
    · exact ints_mem h y hy
theorem op_ninT {X : Cx} (hu : X.A.units + 1 < cLine) : OpR X (compareOp .NotIn) (fun x y H Q => ∃ (a b : Addr) (xs : List V) (ns : List Int), x = .ref a ∧ y = .ref b ∧ (SqL X.K H a xs ∨ SqT X.K H a xs) ∧ SqT X.K H b (ns.map V.int) ∧ Q (.bl true) H) := by
  rintro pins s σ H x y v u Q I rx ry ⟨a, b, xs, ns, rfl, rfl, ha, hb, q⟩
  obtain rfl : v = .ref a := rx
  obtain rfl : u = .ref b := ry
  obtain ⟨is, rv, pl, _⟩ := I.tuple hb
  have h1 : X.A.in1.units < cLine := hu
  have al : ∀ y ∈ is.toArray, SeqAt.EqAt X.A.in1 s y (.ref a) false := fun y hy => by
    obtain ⟨z, t, rfl⟩ := ints_mem rv y (by simpa using hy)
    rcases ha with ha | ha
    · obtain ⟨us, r1, p1, _⟩ := I.list ha
      exact SeqAt.EqAt.int_list z t p1.isList h1
    · obtain ⟨us, r1, p1, _⟩ := I.tuple ha
      exact SeqAt.EqAt.int_tuple z t p1 h1
  refine SeqAt.notIn_tupleAt (fun _ => false) pl al ⟨.bl true, H, I, ?_, q⟩
  show L2.RelV _ (Value.bool _)
  rw [show is.toArray.any (fun _ => false) = false by simp]
  rfl
theorem opNinT {X : Cx} {K : Fg} (h : X.K = K) (hu : X.A.units + 65 < cLine) : OpR X (compareOp .NotIn) (rNinT K) := by
  subst h
  exact (opNIn rfl hu).or (op_ninT (by omega))
def intsOf : List D → Option (List Int)
  | [] => some []
  | .v (.int n) :: r => (intsOf r).map (n :: ·)
  | _ => none
theorem intsOf_eq {Γ : Gm} {F : Hp} {φ : List Addr} : ∀ {xs : List V} {ds : List D} {ns : List Int}, RpAll Γ F φ xs ds → intsOf ds = some ns → xs = ns.map V.int
  | _, _, ns, .nil, e => by cases e; rfl
  | _, _, ns, .cons (d := d) r1 r2, e => by
    unfold intsOf at e
    split at e
    · cases ‹_ = []›
    · rename_i n r ed
      cases ed
      obtain ⟨t, e1, rfl⟩ := Option.map_eq_some_iff.mp e
      rw [List.map_cons, ← intsOf_eq r2 e1, r1.vi]
    · cases e
def fNinT : D → D → GS → Option (D × GS) := fun x y st => match x, y with
  | .v _, _ => fNIn x y st
  | _, .tup ds => (match sv st x, intsOf ds with
    | some _, some _ => some (.v (.bl true), st)
    | _, _ => fNIn x y st)
  | _, _ => fNIn x y st
section
variable {Γ : Gm}
theorem simr_ninA : SimR Γ (rNinT Γ.K) fNinT := by
  intro F R φ H st x y dx dy hG rx ry Q h
  unfold fNinT at h
  split at h
  · exact .inl (simr_nin F R φ H st x y _ dy hG rx ry Q h)
  · rename_i ds _
    split at h
    · rename_i e1 e2
      obtain ⟨a, xs, rfl, h1, _⟩ := hG.sv e1 rx
      obtain ⟨b, ys, rfl, h2, r2⟩ := ry.tup'
      have e3 := intsOf_eq r2 e2
      subst e3
      exact .inr ⟨a, b, xs, _, rfl, rfl, h1, .of (hG.f _ _ h2), h.now hG (.v _)⟩
    · exact .inl (simr_nin F R φ H st x y dx _ hG rx ry Q h)
  · exact .inl (simr_nin F R φ H st x y dx dy hG rx ry Q h)
end
end Nm
set_option Elab.async false
set_option linter.all false
set_option maxRecDepth 100000
set_option maxHeartbeats 4000000
namespace Nm
open PySem PySem.Spec PyProof.Rows L2 Evl
def bq__law_rule : MS := (mSeq (mPar 1 2 (mCons mDNewC (mCons mDNewC mNil)))
  (mSeq (mFor (mItems (mC (.str "A1B2_Z9"))) (mgName 3) (mIfS (mTest (mOp fEq (mCall m__law_take_d4ae [] (mCons (mVar 0) (mCons (mC (.int 2)) mNil))) (mC (.int 0)))) (mSetI (mVar 1) (mVar 3) (mM1 fJoin (mC (.str "")) (mLc (mRng1 (mCons (mOp fIx (mLst (mCons (mC (.int 1)) (mCons (mC (.int 1)) (mCons (mC (.int 2)) (mCons (mC (.int 2)) (mCons (mC (.int 3)) mNil)))))) (mCall m__law_take_d4ae [] (mCons (mVar 0) (mCons (mC (.int 5)) mNil)))) mNil)) (mgName 4) mYes (mOp fIx (mC (.str "aabc':^")) (mCall m__law_take_d4ae [] (mCons (mVar 0) (mCons (mC (.int 7)) mNil)))) [4]))) mNext))
  (mSeq (mFor (mItems (mC (.str "':^~"))) (mgName 3) (mIfS (mTest (mOp fGt (mCall m__law_take_d4ae [] (mCons (mVar 0) (mCons (mC (.int 3)) mNil))) (mC (.int 0)))) (mSetI (mVar 2) (mVar 3) (mOp fAdd (mC (.int 1)) (mCall m__law_take_d4ae [] (mCons (mVar 0) (mCons (mC (.int 3)) mNil))))) mNext))
  (mRet (mTup (mCons (mVar 1) (mCons (mVar 2) mNil)))))))
def q__law_rule : MF := gcM (mFn 1 5 bq__law_rule)
def bq__law_alone : MS := (mSeq (mAsg (mLst (mCons (mXisC 0 [("NoSign", .value), ("NoFold", .value), ("NoMark", .value), ("NoWord", .value), ("NoPath", .value), ("NoDeed", .value), ("NoText", .value), ("NoCommand", .value), ("TooMany", .overflow)] (mKon (.cls "NoSign"))) (mCons (mXisC 0 [("NoSign", .value), ("NoFold", .value), ("NoMark", .value), ("NoWord", .value), ("NoPath", .value), ("NoDeed", .value), ("NoText", .value), ("NoCommand", .value), ("TooMany", .overflow)] (mKon (.cls "NoFold"))) (mCons (mXisC 0 [("NoSign", .value), ("NoFold", .value), ("NoMark", .value), ("NoWord", .value), ("NoPath", .value), ("NoDeed", .value), ("NoText", .value), ("NoCommand", .value), ("TooMany", .overflow)] (mKon (.cls "NoMark"))) (mCons (mXisC 0 [("NoSign", .value), ("NoFold", .value), ("NoMark", .value), ("NoWord", .value), ("NoPath", .value), ("NoDeed", .value), ("NoText", .value), ("NoCommand", .value), ("TooMany", .overflow)] (mKon (.cls "NoWord"))) mNil))))) (mgName 1))
  (mSeq (mAsg (mOp fAdd (mVar 1) (mLst (mCons (mXisC 0 [("NoSign", .value), ("NoFold", .value), ("NoMark", .value), ("NoWord", .value), ("NoPath", .value), ("NoDeed", .value), ("NoText", .value), ("NoCommand", .value), ("TooMany", .overflow)] (mTup (mCons (mKon (.cls "NoCommand")) (mCons (mKon (.cls "NoDeed")) mNil)))) (mCons (mXisC 0 [("NoSign", .value), ("NoFold", .value), ("NoMark", .value), ("NoWord", .value), ("NoPath", .value), ("NoDeed", .value), ("NoText", .value), ("NoCommand", .value), ("TooMany", .overflow)] (mTup (mCons (mKon (.cls "NoPath")) (mCons (mKon (.cls "NoText")) mNil)))) mNil)))) (mgName 1))
  (mRet (mAndV (mOp fEq (mCntL (mVar 1) (mCons (mC (.bl true)) mNil)) (mC (.int 1))) (mAndV (mXisB 0 [("NoSign", .value), ("NoFold", .value), ("NoMark", .value), ("NoWord", .value), ("NoPath", .value), ("NoDeed", .value), ("NoText", .value), ("NoCommand", .value), ("TooMany", .overflow)] "ValueError") (mNotV (mXisB 0 [("NoSign", .value), ("NoFold", .value), ("NoMark", .value), ("NoWord", .value), ("NoPath", .value), ("NoDeed", .value), ("NoText", .value), ("NoCommand", .value), ("TooMany", .overflow)] "OverflowError")))))))
def q__law_alone : MF := gcM (mFn 1 2 bq__law_alone)
def bq__law_error : MS := (mSeq (mTry (mDrop (mRest (mMake "Table" m_Table___init__ [] (mCons (mVar 0) (mCons (mVar 1) mNil))))) (⟨["NoSign"], some 2, (mRet (mIf (mTest (mCallA 2 q__law_alone)) (mTup (mCons (mC (.str "sign")) (mCons (mXf 2 "sign" ["NoSign"]) mNil))) (mTup (mCons (mC (.str "other")) (mCons (mC (.str "")) mNil)))))⟩ :: (⟨["NoFold"], some 2, (mRet (mIf (mTest (mCallA 2 q__law_alone)) (mTup (mCons (mC (.str "fold")) (mCons (mXf 2 "sign" ["NoFold"]) mNil))) (mTup (mCons (mC (.str "other")) (mCons (mC (.str "")) mNil)))))⟩ :: (⟨["NoMark"], some 2, (mRet (mIf (mTest (mCallA 2 q__law_alone)) (mTup (mCons (mC (.str "mark")) (mCons (mXf 2 "sign" ["NoMark"]) mNil))) (mTup (mCons (mC (.str "other")) (mCons (mC (.str "")) mNil)))))⟩ :: (⟨["TooMany"], some 2, (mRet (mIf (mAnd (mTest (mXis 2 "TooMany" true)) (mNot (mTest (mXis 2 "TooMany" false)))) (mTup (mCons (mC (.str "many")) (mCons (mXf 2 "limit" ["TooMany"]) mNil))) (mTup (mCons (mC (.str "other")) (mCons (mC (.str "")) mNil)))))⟩ :: [])))))
  (mRet (mTup mNil)))
def q__law_error : MF := gcM (mFn 2 3 bq__law_error)
def bq__law_bent : MS := (mSeq (mAsg (mCall m__law_take_d4ae [] (mCons (mVar 0) (mCons (mC (.int 6)) mNil))) (mgName 3))
  (mSeq (mAsg (mOp fIx (mLst (mCons (mC (.str "a")) (mCons (mC (.str "A")) (mCons (mC (.str "")) (mCons (mC (.str "ab")) (mCons (mC (.str " ")) (mCons (mC (.str "/")) (mCons (mC (.str "!")) (mCons (mC (.str "Q")) (mCons (mC (.str "'")) (mCons (mC (.str "1")) (mCons (mC (.str "z")) (mCons (mC (.str "\n")) mNil))))))))))))) (mCall m__law_take_d4ae [] (mCons (mVar 0) (mCons (mC (.int 12)) mNil)))) (mgName 4))
  (mIfS (mTest (mOp fLt (mVar 3) (mC (.int 3)))) (mSeq (mAsg (mLst (mCons (mC (.str "")) (mCons (mC (.str "abcd")) (mCons (mC (.str "a b")) (mCons (mC (.str "a/")) (mCons (mC .non) (mCons (mC (.int 1)) (mCons (mLst (mCons (mC (.str "a")) mNil)) (mCons (mTup (mCons (mC (.str "a")) mNil)) (mCons (mC (.str "A")) (mCons (mC (.str "aQ")) (mCons (mC (.str "q")) (mCons (mC (.str "q'")) (mCons (mC (.str "qrs")) (mCons (mC (.bl true)) mNil))))))))))))))) (mgName 5))
  (mSetI (mVar 1) (mVar 4) (mOp fIx (mVar 5) (mCall m__law_take_d4ae [] (mCons (mVar 0) (mCons (mC (.int 14)) mNil)))))) (mSetI (mVar 2) (mVar 4) (mOp fIx (mLst (mCons (mC (.int 0)) (mCons (mC (.int 4)) (mCons (mC (.bl true)) (mCons (mC (.str "1")) (mCons (mC .non) (mCons (mC (.int 1)) (mCons (mC (.int 2)) (mCons (mC (.int 3)) (mCons (mLst (mCons (mC (.int 1)) mNil)) (mCons (mTup (mCons (mC (.int 1)) mNil)) (mCons (mUn fNeg (mC (.int 1))) (mCons (mOp (fI cPow fun i j => .int (i ^ j.toNat)) (mC (.int 10)) (mC (.int 30))) mNil))))))))))))) (mCall m__law_take_d4ae [] (mCons (mVar 0) (mCons (mC (.int 12)) mNil))))))))
def q__law_bent : MF := gcM (mFn 3 6 bq__law_bent)
def bq__law_is_sign : MS := (mRet (mAndV (mCB fIsi (mCons (mVar 0) (mCons (mC (.ty "str")) mNil))) (mAndV (mOp fEq (mCB fLen (mCons (mVar 0) mNil)) (mC (.int 1))) (mOrV (mAln (mVar 0)) (mOp fIn (mVar 0) (mC (.str "'-.:^_~")))))))
def q__law_is_sign : MF := gcM (mFn 1 1 bq__law_is_sign)
def bq__law_due : MS := (mSeq (mFor (mItems (mCB fSorted (mCons (mVar 0) mNil))) (mgName 2) (mSeq (mAsg (mOp fIx (mVar 0) (mVar 2)) (mgName 3))
  (mSeq (mIfS (mNot (mTest (mCall q__law_is_sign [] (mCons (mVar 2) mNil)))) (mRet (mTup (mCons (mC (.str "sign")) (mCons (mVar 2) mNil)))) mNext)
  (mSeq (mIfS (mOr (mNot (mTest (mCB fIsi (mCons (mVar 3) (mCons (mC (.ty "str")) mNil))))) (mOr (mNot (mTest (mChain fLe fLe (mC (.int 1)) (mCB fLen (mCons (mVar 3) mNil)) (mC (.int 3))))) (mNot (mTest (mCB fAll (mCons (mLcA 3 (mgName 4) mYes (mCall q__law_is_sign [] (mCons (mVar 4) mNil)) [4]) mNil)))))) (mRet (mTup (mCons (mC (.str "fold")) (mCons (mVar 2) mNil)))) mNext)
  (mIfS (mTest (mOp fNe (mLcA 3 (mgName 4) (mTest (mOp fIn (mVar 4) (mVar 0))) (mVar 4) [4]) (mLst mNil))) (mRet (mTup (mCons (mC (.str "fold")) (mCons (mVar 2) mNil)))) mNext)))))
  (mSeq (mFor (mItems (mCB fSorted (mCons (mVar 1) mNil))) (mgName 2) (mSeq (mIfS (mNot (mTest (mCall q__law_is_sign [] (mCons (mVar 2) mNil)))) (mRet (mTup (mCons (mC (.str "sign")) (mCons (mVar 2) mNil)))) mNext)
  (mIfS (mOr (mTest (mCB fIsi (mCons (mOp fIx (mVar 1) (mVar 2)) (mCons (mC (.ty "bool")) mNil)))) (mOr (mTest (mOp fNinT (mOp fIx (mVar 1) (mVar 2)) (mTup (mCons (mC (.int 1)) (mCons (mC (.int 2)) (mCons (mC (.int 3)) mNil)))))) (mTest (mOp fIn (mVar 2) (mVar 0))))) (mRet (mTup (mCons (mC (.str "mark")) (mCons (mVar 2) mNil)))) mNext)))
  (mSeq (mIfS (mTest (mOp fGt (mCB fLen (mCons (mVar 0) mNil)) (mC (.int 40)))) (mRet (mTup (mCons (mC (.str "many")) (mCons (mC (.int 40)) mNil)))) mNext)
  (mRet (mIf (mTest (mOp fGt (mCB fLen (mCons (mVar 1) mNil)) (mC (.int 8)))) (mTup (mCons (mC (.str "many")) (mCons (mC (.int 8)) mNil))) (mTup mNil))))))
def q__law_due : MF := gcM (mFn 2 5 bq__law_due)
def bq__law_turned : MS := (mSeq (mPar 2 3 (mCons (mCB fListC (mCons (mVar 1) mNil)) (mCons mDNewC mNil)))
  (mSeq (mWh (mTest (mOp fNe (mVar 2) (mLst mNil))) (mSeq (mAsg (mPopAt (mVar 2) (mCons (mCall m__law_take_d4ae [] (mCons (mVar 0) (mCons (mCB fLen (mCons (mVar 2) mNil)) mNil))) mNil)) (mgName 4))
  (mSetI (mVar 3) (mVar 4) (mOp fIx (mVar 1) (mVar 4)))) 100000)
  (mRet (mRest (mVar 3)))))
def q__law_turned : MF := gcM (mFn 2 5 bq__law_turned)
def bq_law : MS := (mSeq (mFor (mRng1 (mCons (mCB (f2I fun i j => if j > i then j else i) (mCons (mC (.int 2)) (mCons (mCB (f2I fun i j => if j < i then j else i) (mCons (mC (.int 6)) (mCons (mCB fLen (mCons (mVar 0) mNil)) mNil))) mNil))) mNil)) (mgName 1) (mSeq (mAsg (mCall m__law_bag_4c78 [] (mCons (mVar 0) (mCons (mVar 1) mNil))) (mgName 2))
  (mFor (mRng1 (mCons (mC (.int 12)) mNil)) (mgName 3) (mSeq (mAsg (mCall q__law_rule [] (mCons (mVar 2) mNil)) (mgTup 2 (mgCons (mgName 4) (mgCons (mgName 5) mgNil))))
  (mSeq (mFor (mRng1 (mCons (mCall m__law_take_d4ae [] (mCons (mVar 2) (mCons (mC (.int 4)) mNil))) mNil)) (mgName 6) (mDrop (mCall q__law_bent [] (mCons (mVar 2) (mCons (mVar 4) (mCons (mVar 5) mNil))))))
  (mSeq (mFrz 5 (mFrz 4 (mPar 7 8 (mCons (mCall q__law_due [] (mCons (mVar 4) (mCons (mVar 5) mNil))) (mCons (mCB fReprX (mCons (mLst (mCons (mVar 4) (mCons (mVar 5) mNil))) mNil)) mNil)))))
  (mSeq (mIfS (mOr (mTest (mOp fNe (mCB fReprX (mCons (mCall q__law_error [] (mCons (mVar 4) (mCons (mVar 5) mNil))) mNil)) (mCB fReprX (mCons (mVar 7) mNil)))) (mTest (mOp fNe (mCB fReprX (mCons (mLst (mCons (mVar 4) (mCons (mVar 5) mNil))) mNil)) (mVar 8)))) (mRet (mC (.bl false))) mNext)
  (mIfS (mTest (mOp fNe (mCB fReprX (mCons (mCall q__law_error [] (mCons (mCall q__law_turned [] (mCons (mVar 2) (mCons (mVar 4) mNil))) (mCons (mCall q__law_turned [] (mCons (mVar 2) (mCons (mVar 5) mNil))) mNil))) mNil)) (mCB fReprX (mCons (mVar 7) mNil)))) (mRet (mC (.bl false))) mNext))))))))
  (mSeq (mAsg (mC (.str "ABCDEFGHIJKLMNOPQRSTUVWXYZabcdefghijklmnopqrstuvwxy")) (mgName 9))
  (mSeq (mPar 4 5 (mCons mDNewC (mCons mDNewC mNil)))
  (mSeq (mFor (mItems (mSl fSl (mVar 9) mNoPart (mPart (mC (.int 41))))) (mgName 10) (mSetI (mVar 4) (mVar 10) (mC (.str "z"))))
  (mSeq (mFor (mItems (mC (.str "012345678"))) (mgName 10) (mSetI (mVar 5) (mVar 10) (mC (.int 1))))
  (mSeq (mIfS (mOr (mTest (mOp fNe (mCall q__law_error [] (mCons (mVar 4) (mCons (mVar 5) mNil))) (mTup (mCons (mC (.str "many")) (mCons (mC (.int 40)) mNil))))) (mTest (mOp fNe (mCall q__law_error [] (mCons mDNew (mCons (mVar 5) mNil))) (mTup (mCons (mC (.str "many")) (mCons (mC (.int 8)) mNil)))))) (mRet (mC (.bl false))) mNext)
  (mSeq (mDrop (mDPop1 (mVar 4) (mC (.str "A"))))
  (mSeq (mIfS (mOr (mTest (mOp fNe (mCall q__law_error [] (mCons (mVar 4) (mCons (mVar 5) mNil))) (mTup (mCons (mC (.str "many")) (mCons (mC (.int 8)) mNil))))) (mTest (mOp fNe (mCall q__law_error [] (mCons (mVar 4) (mCons (mDisp (((mC (.str "0")), (mC (.int 4))) :: [])) mNil))) (mTup (mCons (mC (.str "mark")) (mCons (mC (.str "0")) mNil)))))) (mRet (mC (.bl false))) mNext)
  (mSeq (mDrop (mDPop1 (mVar 5) (mC (.str "8"))))
  (mRet (mAndV (mOp fEq (mCall q__law_error [] (mCons (mVar 4) (mCons (mVar 5) mNil))) (mTup mNil)) (mOp fEq (mCall q__law_error [] (mCons mDNew (mCons mDNew mNil))) (mTup mNil)))))))))))))
def q_law : MF := gcM (nrM (mFn 1 11 bq_law))
end Nm
set_option Elab.async false
set_option linter.all false
set_option maxRecDepth 100000
set_option maxHeartbeats 4000000
namespace Nm
open PySem PySem.Spec PyProof.Rows L2 Evl
def top (i : Nat) : Stmt := PySem.Challenge.pw_namesone_k02_tables_refused.main.body.getD i (.Pass ⟨0, 0, 0, 0⟩)
structure Ad where
  (u0 C_NoSign C_NoFold C_NoMark C_NoWord C_NoPath C_NoDeed C_NoText C_NoCommand C_TooMany C_Table f_NoSign___init__ f_NoFold___init__ f_NoMark___init__ f_TooMany___init__ f_Table___init__ f_NoWord___init__ f_NoDeed___init__ f_NoPath___init__ f_NoText___init__ K_MARK_CLASSES : Addr)
def clA (A : Ad) (s : Str) : Option Addr := if s = "NoSign" then some A.C_NoSign else if s = "NoFold" then some A.C_NoFold else if s = "NoMark" then some A.C_NoMark else if s = "NoWord" then some A.C_NoWord else if s = "NoPath" then some A.C_NoPath else if s = "NoDeed" then some A.C_NoDeed else if s = "NoText" then some A.C_NoText else if s = "NoCommand" then some A.C_NoCommand else if s = "TooMany" then some A.C_TooMany else if s = "Table" then some A.C_Table else none
abbrev Gam (K : Fg) (A : Ad) : Gm := {K := K, cl := clA A}
structure Txt (K : Fg) (mg : Str → Option Value) (A : Ad) : Prop where
  b_OverflowError : mg "OverflowError" = none
  b_ValueError : mg "ValueError" = none
  b_abs : mg "abs" = none
  b_all : mg "all" = none
  b_any : mg "any" = none
  b_bool : mg "bool" = none
  b_dict : mg "dict" = none
  b_int : mg "int" = none
  b_isinstance : mg "isinstance" = none
  b_len : mg "len" = none
  b_list : mg "list" = none
  b_max : mg "max" = none
  b_min : mg "min" = none
  b_range : mg "range" = none
  b_repr : mg "repr" = none
  b_sorted : mg "sorted" = none
  b_str : mg "str" = none
  c_SIGNS : ∃ u, mg "SIGNS" = some u ∧ RelV kc_SIGNS u
  c_LONGEST_FOLD : ∃ u, mg "LONGEST_FOLD" = some u ∧ RelV kc_LONGEST_FOLD u
  c_MARK_CLASSES : ∃ u, mg "MARK_CLASSES" = some u ∧ RelV (.ref A.K_MARK_CLASSES) u
  k_MARK_CLASSES : ∀ F φ, Rp (Gam K A) F φ (.ref A.K_MARK_CLASSES) kc_MARK_CLASSES
  c_MOST_FOLDS : ∃ u, mg "MOST_FOLDS" = some u ∧ RelV kc_MOST_FOLDS u
  c_MOST_MARKS : ∃ u, mg "MOST_MARKS" = some u ∧ RelV kc_MOST_MARKS u
  er_NoCommand : ErC K "NoCommand" .value A.C_NoCommand
  er_NoDeed : ErC K "NoDeed" .value A.C_NoDeed
  er_NoFold : ErC K "NoFold" .value A.C_NoFold
  er_NoMark : ErC K "NoMark" .value A.C_NoMark
  er_NoPath : ErC K "NoPath" .value A.C_NoPath
  er_NoSign : ErC K "NoSign" .value A.C_NoSign
  er_NoText : ErC K "NoText" .value A.C_NoText
  er_NoWord : ErC K "NoWord" .value A.C_NoWord
  er_TooMany : ErC K "TooMany" .overflow A.C_TooMany
  ev_NoCommand : ErX K "NoCommand" .value A.C_NoCommand
  ev_NoDeed : ErX K "NoDeed" .value A.C_NoDeed
  ev_NoFold : ErX K "NoFold" .value A.C_NoFold
  ev_NoMark : ErX K "NoMark" .value A.C_NoMark
  ev_NoPath : ErX K "NoPath" .value A.C_NoPath
  ev_NoSign : ErX K "NoSign" .value A.C_NoSign
  ev_NoText : ErX K "NoText" .value A.C_NoText
  ev_NoWord : ErX K "NoWord" .value A.C_NoWord
  ev_TooMany : ErX K "TooMany" .overflow A.C_TooMany
  ex_TooMany : ExK K A.C_TooMany
  f__folds : FldOk (Gam K A) ["Table"] "_folds"
  f__marks : FldOk (Gam K A) ["Speller", "Table"] "_marks"
  iC_NoFold : PySem.W.findIn K (.ref A.C_NoFold) "__init__" = some (some (.ref A.f_NoFold___init__))
  iC_NoMark : PySem.W.findIn K (.ref A.C_NoMark) "__init__" = some (some (.ref A.f_NoMark___init__))
  iC_NoSign : PySem.W.findIn K (.ref A.C_NoSign) "__init__" = some (some (.ref A.f_NoSign___init__))
  iC_TooMany : PySem.W.findIn K (.ref A.C_TooMany) "__init__" = some (some (.ref A.f_TooMany___init__))
  ki_TooMany_OverflowError : PySem.W.kitOne K (.ref A.C_TooMany) (.type "OverflowError") = some true
  ki_TooMany_ValueError : PySem.W.kitOne K (.ref A.C_TooMany) (.type "ValueError") = some false
  mg_NoCommand : mg "NoCommand" = some (.ref A.C_NoCommand)
  mg_NoDeed : mg "NoDeed" = some (.ref A.C_NoDeed)
  mg_NoFold : mg "NoFold" = some (.ref A.C_NoFold)
  mg_NoMark : mg "NoMark" = some (.ref A.C_NoMark)
  mg_NoPath : mg "NoPath" = some (.ref A.C_NoPath)
  mg_NoSign : mg "NoSign" = some (.ref A.C_NoSign)
  mg_NoText : mg "NoText" = some (.ref A.C_NoText)
  mg_NoWord : mg "NoWord" = some (.ref A.C_NoWord)
  mg_Table : mg "Table" = some (.ref A.C_Table)
  mg_TooMany : mg "TooMany" = some (.ref A.C_TooMany)
  mk_Table : Mk K A.C_Table A.f_Table___init__
  nf_NoDeed_at : PySem.W.findIn K (.ref A.C_NoDeed) "at" = some none
  nf_NoFold_sign : PySem.W.findIn K (.ref A.C_NoFold) "sign" = some none
  nf_NoMark_sign : PySem.W.findIn K (.ref A.C_NoMark) "sign" = some none
  nf_NoPath_path : PySem.W.findIn K (.ref A.C_NoPath) "path" = some none
  nf_NoSign_sign : PySem.W.findIn K (.ref A.C_NoSign) "sign" = some none
  nf_NoText_index : PySem.W.findIn K (.ref A.C_NoText) "index" = some none
  nf_NoWord_word : PySem.W.findIn K (.ref A.C_NoWord) "word" = some none
  nf_TooMany_limit : PySem.W.findIn K (.ref A.C_TooMany) "limit" = some none
  tI_NoFold : PySem.W.typeIn K (.ref A.f_NoFold___init__) = some (.type "function")
  tI_NoMark : PySem.W.typeIn K (.ref A.f_NoMark___init__) = some (.type "function")
  tI_NoSign : PySem.W.typeIn K (.ref A.f_NoSign___init__) = some (.type "function")
  tI_TooMany : PySem.W.typeIn K (.ref A.f_TooMany___init__) = some (.type "function")
  xf_NoFold : XfC K A.C_NoFold
  xf_NoMark : XfC K A.C_NoMark
  xf_NoSign : XfC K A.C_NoSign
  xf_TooMany : XfC K A.C_TooMany
section
variable {K : Fg} {mg : Str → Option Value} {A : Ad}
theorem Txt.cl_NoSign (T : Txt K mg A) : (Gam K A).cl "NoSign" = some A.C_NoSign := rfl
theorem Txt.cl_NoFold (T : Txt K mg A) : (Gam K A).cl "NoFold" = some A.C_NoFold := rfl
theorem Txt.cl_NoMark (T : Txt K mg A) : (Gam K A).cl "NoMark" = some A.C_NoMark := rfl
theorem Txt.cl_NoWord (T : Txt K mg A) : (Gam K A).cl "NoWord" = some A.C_NoWord := rfl
theorem Txt.cl_NoPath (T : Txt K mg A) : (Gam K A).cl "NoPath" = some A.C_NoPath := rfl
theorem Txt.cl_NoDeed (T : Txt K mg A) : (Gam K A).cl "NoDeed" = some A.C_NoDeed := rfl
theorem Txt.cl_NoText (T : Txt K mg A) : (Gam K A).cl "NoText" = some A.C_NoText := rfl
theorem Txt.cl_NoCommand (T : Txt K mg A) : (Gam K A).cl "NoCommand" = some A.C_NoCommand := rfl
theorem Txt.cl_TooMany (T : Txt K mg A) : (Gam K A).cl "TooMany" = some A.C_TooMany := rfl
theorem Txt.cl_Table (T : Txt K mg A) : (Gam K A).cl "Table" = some A.C_Table := rfl
theorem Txt.nx_NoFold (T : Txt K mg A) {X : Cx} (g : Gl X "NoFold") (e : X.mg = mg := by rfl) : Names X "NoFold" (.ref A.C_NoFold) := ⟨g, by decide +kernel, .inl (by rw [e]; exact T.mg_NoFold)⟩
theorem Txt.nx_NoMark (T : Txt K mg A) {X : Cx} (g : Gl X "NoMark") (e : X.mg = mg := by rfl) : Names X "NoMark" (.ref A.C_NoMark) := ⟨g, by decide +kernel, .inl (by rw [e]; exact T.mg_NoMark)⟩
theorem Txt.nx_NoSign (T : Txt K mg A) {X : Cx} (g : Gl X "NoSign") (e : X.mg = mg := by rfl) : Names X "NoSign" (.ref A.C_NoSign) := ⟨g, by decide +kernel, .inl (by rw [e]; exact T.mg_NoSign)⟩
theorem Txt.nx_TooMany (T : Txt K mg A) {X : Cx} (g : Gl X "TooMany") (e : X.mg = mg := by rfl) : Names X "TooMany" (.ref A.C_TooMany) := ⟨g, by decide +kernel, .inl (by rw [e]; exact T.mg_TooMany)⟩
end
abbrev s__law_bag : Stmt := top 33
abbrev sc__law_bag_N : List Str := ["_law_script", "_law_at", "_law_cell", "_law_digits"]
theorem sc__law_bag : FnScope sc__law_bag_N ["_law_script", "_law_at"] (defScope s__law_bag) := ⟨rfl, rfl, rfl, by decide +kernel, rfl, by decide +kernel, by decide +kernel⟩
abbrev s__law_take : Stmt := top 34
abbrev sc__law_take_N : List Str := ["_law_bag_here", "_law_many", "_law_digit", "_law_mixed"]
theorem sc__law_take : FnScope sc__law_take_N ["_law_bag_here", "_law_many"] (defScope s__law_take) := ⟨rfl, rfl, rfl, by decide +kernel, rfl, by decide +kernel, by decide +kernel⟩
abbrev s__law_rule : Stmt := top 35
abbrev sc__law_rule_N : List Str := ["_law_bag_here", "_law_folds", "_law_marks", "_law_sign", "_law_k"]
theorem sc__law_rule : FnScope sc__law_rule_N ["_law_bag_here"] (defScope s__law_rule) := ⟨rfl, rfl, rfl, by decide +kernel, rfl, by decide +kernel, by decide +kernel⟩
abbrev s_NoSign___init__ : Stmt := inClass (top 2) 0
abbrev sc_NoSign___init___N : List Str := ["self", "sign"]
theorem sc_NoSign___init__ : FnScope sc_NoSign___init___N ["self", "sign"] (defScope s_NoSign___init__) := ⟨rfl, rfl, rfl, by decide +kernel, rfl, by decide +kernel, by decide +kernel⟩
abbrev s_NoFold___init__ : Stmt := inClass (top 3) 0
abbrev sc_NoFold___init___N : List Str := ["self", "sign"]
theorem sc_NoFold___init__ : FnScope sc_NoFold___init___N ["self", "sign"] (defScope s_NoFold___init__) := ⟨rfl, rfl, rfl, by decide +kernel, rfl, by decide +kernel, by decide +kernel⟩
abbrev s_NoMark___init__ : Stmt := inClass (top 4) 0
abbrev sc_NoMark___init___N : List Str := ["self", "sign"]
theorem sc_NoMark___init__ : FnScope sc_NoMark___init___N ["self", "sign"] (defScope s_NoMark___init__) := ⟨rfl, rfl, rfl, by decide +kernel, rfl, by decide +kernel, by decide +kernel⟩
abbrev s_TooMany___init__ : Stmt := inClass (top 10) 0
abbrev sc_TooMany___init___N : List Str := ["self", "limit"]
theorem sc_TooMany___init__ : FnScope sc_TooMany___init___N ["self", "limit"] (defScope s_TooMany___init__) := ⟨rfl, rfl, rfl, by decide +kernel, rfl, by decide +kernel, by decide +kernel⟩
abbrev s_is_sign : Stmt := top 18
abbrev sc_is_sign_N : List Str := ["thing"]
theorem sc_is_sign : FnScope sc_is_sign_N ["thing"] (defScope s_is_sign) := ⟨rfl, rfl, rfl, by decide +kernel, rfl, by decide +kernel, by decide +kernel⟩
abbrev s__is_word_up_to : Stmt := top 20
abbrev sc__is_word_up_to_N : List Str := ["thing", "most", "sign"]
theorem sc__is_word_up_to : FnScope sc__is_word_up_to_N ["thing", "most"] (defScope s__is_word_up_to) := ⟨rfl, rfl, rfl, by decide +kernel, rfl, by decide +kernel, by decide +kernel⟩
abbrev s__is_fold_word : Stmt := top 21
abbrev sc__is_fold_word_N : List Str := ["thing"]
theorem sc__is_fold_word : FnScope sc__is_fold_word_N ["thing"] (defScope s__is_fold_word) := ⟨rfl, rfl, rfl, by decide +kernel, rfl, by decide +kernel, by decide +kernel⟩
abbrev s__check_folds : Stmt := top 24
abbrev sc__check_folds_N : List Str := ["folds", "key", "sign"]
theorem sc__check_folds : FnScope sc__check_folds_N ["folds"] (defScope s__check_folds) := ⟨rfl, rfl, rfl, by decide +kernel, rfl, by decide +kernel, by decide +kernel⟩
abbrev s_is_number : Stmt := top 22
abbrev sc_is_number_N : List Str := ["thing"]
theorem sc_is_number : FnScope sc_is_number_N ["thing"] (defScope s_is_number) := ⟨rfl, rfl, rfl, by decide +kernel, rfl, by decide +kernel, by decide +kernel⟩
abbrev s__is_mark_class : Stmt := top 23
abbrev sc__is_mark_class_N : List Str := ["thing"]
theorem sc__is_mark_class : FnScope sc__is_mark_class_N ["thing"] (defScope s__is_mark_class) := ⟨rfl, rfl, rfl, by decide +kernel, rfl, by decide +kernel, by decide +kernel⟩
abbrev s__check_marks : Stmt := top 25
abbrev sc__check_marks_N : List Str := ["marks", "folds", "key"]
theorem sc__check_marks : FnScope sc__check_marks_N ["marks", "folds"] (defScope s__check_marks) := ⟨rfl, rfl, rfl, by decide +kernel, rfl, by decide +kernel, by decide +kernel⟩
abbrev s__check_sizes : Stmt := top 26
abbrev sc__check_sizes_N : List Str := ["folds", "marks"]
theorem sc__check_sizes : FnScope sc__check_sizes_N ["folds", "marks"] (defScope s__check_sizes) := ⟨rfl, rfl, rfl, by decide +kernel, rfl, by decide +kernel, by decide +kernel⟩
abbrev s_Table___init__ : Stmt := inClass (top 31) 0
abbrev sc_Table___init___N : List Str := ["self", "folds", "marks"]
theorem sc_Table___init__ : FnScope sc_Table___init___N ["self", "folds", "marks"] (defScope s_Table___init__) := ⟨rfl, rfl, rfl, by decide +kernel, rfl, by decide +kernel, by decide +kernel⟩
abbrev s_NoWord___init__ : Stmt := inClass (top 5) 0
abbrev sc_NoWord___init___N : List Str := ["self", "word"]
theorem sc_NoWord___init__ : FnScope sc_NoWord___init___N ["self", "word"] (defScope s_NoWord___init__) := ⟨rfl, rfl, rfl, by decide +kernel, rfl, by decide +kernel, by decide +kernel⟩
abbrev s_NoDeed___init__ : Stmt := inClass (top 7) 0
abbrev sc_NoDeed___init___N : List Str := ["self", "at"]
theorem sc_NoDeed___init__ : FnScope sc_NoDeed___init___N ["self", "at"] (defScope s_NoDeed___init__) := ⟨rfl, rfl, rfl, by decide +kernel, rfl, by decide +kernel, by decide +kernel⟩
abbrev s_NoPath___init__ : Stmt := inClass (top 6) 0
abbrev sc_NoPath___init___N : List Str := ["self", "path"]
theorem sc_NoPath___init__ : FnScope sc_NoPath___init___N ["self", "path"] (defScope s_NoPath___init__) := ⟨rfl, rfl, rfl, by decide +kernel, rfl, by decide +kernel, by decide +kernel⟩
abbrev s_NoText___init__ : Stmt := inClass (top 8) 0
abbrev sc_NoText___init___N : List Str := ["self", "index"]
theorem sc_NoText___init__ : FnScope sc_NoText___init___N ["self", "index"] (defScope s_NoText___init__) := ⟨rfl, rfl, rfl, by decide +kernel, rfl, by decide +kernel, by decide +kernel⟩
abbrev s__law_alone : Stmt := top 38
abbrev sc__law_alone_N : List Str := ["_law_e", "_law_own"]
theorem sc__law_alone : FnScope sc__law_alone_N ["_law_e"] (defScope s__law_alone) := ⟨rfl, rfl, rfl, by decide +kernel, rfl, by decide +kernel, by decide +kernel⟩
abbrev s__law_error : Stmt := top 37
abbrev sc__law_error_N : List Str := ["_law_folds", "_law_marks", "_law_e"]
theorem sc__law_error : FnScope sc__law_error_N ["_law_folds", "_law_marks"] (defScope s__law_error) := ⟨rfl, rfl, rfl, by decide +kernel, rfl, by decide +kernel, by decide +kernel⟩
abbrev s__law_bent : Stmt := top 41
abbrev sc__law_bent_N : List Str := ["_law_bag_here", "_law_folds", "_law_marks", "_law_way", "_law_sign", "_law_words"]
theorem sc__law_bent : FnScope sc__law_bent_N ["_law_bag_here", "_law_folds", "_law_marks"] (defScope s__law_bent) := ⟨rfl, rfl, rfl, by decide +kernel, rfl, by decide +kernel, by decide +kernel⟩
abbrev s__law_is_sign : Stmt := top 39
abbrev sc__law_is_sign_N : List Str := ["_law_thing"]
theorem sc__law_is_sign : FnScope sc__law_is_sign_N ["_law_thing"] (defScope s__law_is_sign) := ⟨rfl, rfl, rfl, by decide +kernel, rfl, by decide +kernel, by decide +kernel⟩
abbrev s__law_due : Stmt := top 40
abbrev sc__law_due_N : List Str := ["_law_folds", "_law_marks", "_law_sign", "_law_word_here", "_law_one"]
theorem sc__law_due : FnScope sc__law_due_N ["_law_folds", "_law_marks"] (defScope s__law_due) := ⟨rfl, rfl, rfl, by decide +kernel, rfl, by decide +kernel, by decide +kernel⟩
abbrev s__law_turned : Stmt := top 42
abbrev sc__law_turned_N : List Str := ["_law_bag_here", "_law_rows", "_law_left", "_law_found", "_law_key"]
theorem sc__law_turned : FnScope sc__law_turned_N ["_law_bag_here", "_law_rows"] (defScope s__law_turned) := ⟨rfl, rfl, rfl, by decide +kernel, rfl, by decide +kernel, by decide +kernel⟩
abbrev s_law : Stmt := top 43
abbrev sc_law_N : List Str := ["_law_script", "_law_at", "_law_bag_here", "_law_turn", "_law_folds", "_law_marks", "_law_again", "_law_due_here", "_law_text", "_law_signs", "_law_sign"]
theorem sc_law : FnScope sc_law_N ["_law_script"] (defScope s_law) := ⟨rfl, rfl, rfl, by decide +kernel, rfl, by decide +kernel, by decide +kernel⟩
end Nm
set_option Elab.async false
set_option linter.all false
set_option maxRecDepth 100000
set_option maxHeartbeats 4000000
namespace Nm
open PySem PySem.Spec PyProof.Rows L2 Evl
section
variable {P : Program} {w : World} {K : Fg} {mg : Str → Option Value} {base : Heap} {A : Ad}
theorem ok__law_bag {f : Addr} {fd : FuncData} {k : Nat} (F : Fun K "_law_bag" "_law_bag" s__law_bag f fd) (T : Txt K mg A)
    : FnOk P w K mg base (L2.CX P w) (k + 1) f fd ["_law_script", "_law_at"] (spM (Gam K A) m__law_bag_4c78) := by
  refine FnOk.gc (F.okX sc__law_bag (fun vs H Q E h => spM_len h) fun cdv A' outer s H vs Q E hr h => ?_)
  have hr1 := hr
  have hu := hu_of hr
  have hu65 := hu65_of hr
  exact ⟨_, (pss_cons (ps_set (i := 2) sc__law_bag.nd rfl (Or.inl rfl) (pe_ifExp (pt_cmpR opLt (pv 1) (pe_callB (callLen (K := K) rfl) (by rfl) T.b_len PySem.boot_len (pa_cons (pv 0) pa_nil)) (nomark _)) (pe_ix (ixA (K := K) rfl hu) (pv 0) (pv 1) (fun _ _ => rfl)) pe_int))
      (pss_cons (ps_set (i := 3) sc__law_bag.nd rfl (Or.inl rfl) (pe_ifExp (pt_cmpR opGe (pe_callB call_abs (by rfl) T.b_abs (by decide +kernel) (pa_cons (pv 2) pa_nil)) (pe_op op_pow pe_int pe_int) (nomark _)) (pe_callB call_abs (by rfl) T.b_abs (by decide +kernel) (pa_cons (pv 2) pa_nil)) pe_int))
      (pss_one (ps_ret (pe_lstS (pa_cons (pv 3) (pa_cons (pe_op op_mod (pe_op opMul (pe_op (opAdd (K := K) rfl) (pe_op (opAdd (K := K) rfl) (pe_op op_mod (pv 2) pe_int) (pe_op opMul pe_int (pv 1))) pe_int) pe_int) pe_int) (pa_cons pe_int pa_nil)))))))),
    run_fnM (N := sc__law_bag_N) h ((sim_seq (sim_asg (sim_if (sim_test (sim_op sim_var (sim_cb (sim_cons sim_var sim_nil) simc_len) simr_lt)) (sim_op sim_var sim_var simr_ix) sim_c) sim_gName)
      (sim_seq (sim_asg (sim_if (sim_test (sim_op (sim_cb (sim_cons sim_var sim_nil) simc_1I) (sim_op sim_c sim_c (simr_I cPow_ok)) simr_ge)) (sim_cb (sim_cons sim_var sim_nil) simc_1I) sim_c) sim_gName)
      (sim_ret (sim_lstC (sim_cons sim_var (sim_cons (sim_op (sim_op (sim_op (sim_op (sim_op sim_var sim_c (simr_I cMod_ok)) (sim_op sim_c sim_var simr_mul) simr_add) sim_c simr_add) sim_c simr_mul) sim_c (simr_I cMod_ok)) (sim_cons sim_c sim_nil))))))))⟩
theorem ok__law_take {f : Addr} {fd : FuncData} {k : Nat} (F : Fun K "_law_take" "_law_take" s__law_take f fd) (T : Txt K mg A)
    : FnOk P w K mg base (L2.CX P w) (k + 1) f fd ["_law_bag_here", "_law_many"] (spM (Gam K A) m__law_take_d4ae) := by
  refine FnOk.gc (F.okX sc__law_take (fun vs H Q E h => spM_len h) fun cdv A' outer s H vs Q E hr h => ?_)
  have hr1 := hr
  have hu := hu_of hr
  have hu65 := hu65_of hr
  exact ⟨_, (pss_cons (ps_if (pt_cmpR opGt (pe_ix (ixA (K := K) rfl hu) (pv 0) pe_int (fun _ _ => rfl)) pe_int (nomark _)) (pss_cons (ps_set (i := 2) sc__law_take.nd rfl (Or.inl rfl) (pe_op op_mod (pe_ix (ixA (K := K) rfl hu) (pv 0) pe_int (fun _ _ => rfl)) (pv 1)))
      (pss_cons (ps_or (ps_dput hu (pv 0) pe_int (pe_op op_fdiv (pe_ix (ixA (K := K) rfl hu) (pv 0) pe_int (fun _ _ => rfl)) (pv 1)) rfl) (ps_asg (pe_op op_fdiv (pe_ix (ixA (K := K) rfl hu) (pv 0) pe_int (fun _ _ => rfl)) (pv 1)) (pg_sub (pv 0) pe_int set_list)))
      (pss_one (ps_ret (pv 2))))) pss_nil)
      (pss_cons (ps_or (ps_dput hu (pv 0) pe_int (pe_op (opAdd (K := K) rfl) (pe_ix (ixA (K := K) rfl hu) (pv 0) pe_int (fun _ _ => rfl)) pe_int) rfl) (ps_asg (pe_op (opAdd (K := K) rfl) (pe_ix (ixA (K := K) rfl hu) (pv 0) pe_int (fun _ _ => rfl)) pe_int) (pg_sub (pv 0) pe_int set_list)))
      (pss_cons (ps_set (i := 3) sc__law_take.nd rfl (Or.inl rfl) (pe_op op_mod (pe_op op_pow (pe_op (opAdd (K := K) rfl) (pe_ix (ixA (K := K) rfl hu) (pv 0) pe_int (fun _ _ => rfl)) (pe_op opMul pe_int (pe_ix (ixA (K := K) rfl hu) (pv 0) pe_int (fun _ _ => rfl)))) pe_int) pe_int))
      (pss_cons (ps_set (i := 3) sc__law_take.nd rfl (Or.inl rfl) (pe_op op_mod (pe_op op_pow (pe_op (opAdd (K := K) rfl) (pv 3) (pe_op opMul pe_int (pe_ix (ixA (K := K) rfl hu) (pv 0) pe_int (fun _ _ => rfl)))) pe_int) pe_int))
      (pss_one (ps_ret (pe_op op_mod (pe_op op_fdiv (pv 3) pe_int) (pv 1)))))))),
    run_fnM (N := sc__law_take_N) h ((sim_seq (sim_ifS (sim_test (sim_op (sim_op sim_var sim_c simr_ix) sim_c simr_gt)) (sim_seq (sim_asg (sim_op (sim_op sim_var sim_c simr_ix) sim_var (simr_I cMod_ok)) sim_gName)
      (sim_seq (sim_setI (sim_op (sim_op sim_var sim_c simr_ix) sim_var (simr_I cDiv_ok)) sim_var sim_c)
      (sim_ret sim_var))) sim_next)
      (sim_seq (sim_setI (sim_op (sim_op sim_var sim_c simr_ix) sim_c simr_add) sim_var sim_c)
      (sim_seq (sim_asg (sim_op (sim_op (sim_op (sim_op sim_var sim_c simr_ix) (sim_op sim_c (sim_op sim_var sim_c simr_ix) simr_mul) simr_add) sim_c (simr_I cPow_ok)) sim_c (simr_I cMod_ok)) sim_gName)
      (sim_seq (sim_asg (sim_op (sim_op (sim_op sim_var (sim_op sim_c (sim_op sim_var sim_c simr_ix) simr_mul) simr_add) sim_c (simr_I cPow_ok)) sim_c (simr_I cMod_ok)) sim_gName)
      (sim_ret (sim_op (sim_op sim_var sim_c (simr_I cDiv_ok)) sim_var (simr_I cMod_ok))))))))⟩
theorem ok__law_rule {f f0 : Addr} {fd d0 : FuncData} {k : Nat} (F : Fun K "_law_rule" "_law_rule" s__law_rule f fd) (T : Txt K mg A)
    (C__law_take : Cal P w K mg base (L2.CX P w) k "_law_take" ["_law_bag_here", "_law_many"] (spM (Gam K A) m__law_take_d4ae) f0 d0)
    : FnOk P w K mg base (L2.CX P w) (k + 1) f fd ["_law_bag_here"] (spM (Gam K A) q__law_rule) := by
  refine FnOk.gc (F.okX sc__law_rule (fun vs H Q E h => spM_len h) fun cdv A' outer s H vs Q E hr h => ?_)
  have hr1 := hr
  have hu := hu_of hr
  have hu65 := hu65_of hr
  exact ⟨_, (pss_cons (ps_par (i := 1) (j := 2) (by rfl) sc__law_rule.nd rfl rfl (by decide) rfl rfl (pa_cons pe_dnewK (pa_cons pe_dnewK pa_nil)) (by rfl))
      (pss_cons (ps_lockO (ps_for (passes_of rfl) rfl (pi_any (K := K) rfl pe_str) (pg_name (i := 3) sc__law_rule.nd rfl (Or.inl rfl)) (pss_one (ps_if (pt_cmpR (opEq (K := K) rfl hr.units) (pe_callSD C__law_take.ok hr1 (by rfl) C__law_take.mg C__law_take.kp C__law_take.b .nil (fun σ => passAt (takes_of rfl rfl rfl rfl) σ) (pa_cons (pv 0) (pa_cons pe_int pa_nil))) pe_int (nomark _)) (pss_one (ps_or (ps_dput hu (pv 1) (pv 3) (pe_m1 PySem.F.slot_str_join PySem.F.type_str_join (mJoin (K := K) rfl) pe_str (pe_lc (own := [("_law_k", 4)]) (g := (gName 4)) (tt := tYes) rfl sc__law_rule.nd (pi_range1 (by rfl) T.b_range (pa_cons (pe_ix (ixA (K := K) rfl hu) (pe_lstS (pa_cons pe_int (pa_cons pe_int (pa_cons pe_int (pa_cons pe_int (pa_cons pe_int pa_nil)))))) (pe_callSD C__law_take.ok hr1 (by rfl) C__law_take.mg C__law_take.kp C__law_take.b .nil (fun σ => passAt (takes_of rfl rfl rfl rfl) σ) (pa_cons (pv 0) (pa_cons pe_int pa_nil))) (fun _ _ => rfl)) pa_nil)) (blkOk_by (own := [("_law_k", 4)]) (N := sc__law_rule_N) (sc := defScope s__law_rule) (by decide +kernel)) (fun _ _ _ _ _ => (pg_name (i := 4) sc__law_rule.nd rfl (Or.inl rfl))) (fun _ _ _ _ _ => pts_nil) (fun _ _ _ _ _ => (pe_ix (ixA (K := K) rfl hu) pe_str (pe_callSD C__law_take.ok hr1 (by rfl) C__law_take.mg C__law_take.kp C__law_take.b .nil (fun σ => passAt takes0 σ) (pa_cons (pv 0) (pa_cons pe_int pa_nil))) (fun _ _ => rfl))))) rfl) (ps_asg (pe_m1 PySem.F.slot_str_join PySem.F.type_str_join (mJoin (K := K) rfl) pe_str (pe_lc (own := [("_law_k", 4)]) (g := (gName 4)) (tt := tYes) rfl sc__law_rule.nd (pi_range1 (by rfl) T.b_range (pa_cons (pe_ix (ixA (K := K) rfl hu) (pe_lstS (pa_cons pe_int (pa_cons pe_int (pa_cons pe_int (pa_cons pe_int (pa_cons pe_int pa_nil)))))) (pe_callSD C__law_take.ok hr1 (by rfl) C__law_take.mg C__law_take.kp C__law_take.b .nil (fun σ => passAt (takes_of rfl rfl rfl rfl) σ) (pa_cons (pv 0) (pa_cons pe_int pa_nil))) (fun _ _ => rfl)) pa_nil)) (blkOk_by (own := [("_law_k", 4)]) (N := sc__law_rule_N) (sc := defScope s__law_rule) (by decide +kernel)) (fun _ _ _ _ _ => (pg_name (i := 4) sc__law_rule.nd rfl (Or.inl rfl))) (fun _ _ _ _ _ => pts_nil) (fun _ _ _ _ _ => (pe_ix (ixA (K := K) rfl hu) pe_str (pe_callSD C__law_take.ok hr1 (by rfl) C__law_take.mg C__law_take.kp C__law_take.b .nil (fun σ => passAt takes0 σ) (pa_cons (pv 0) (pa_cons pe_int pa_nil))) (fun _ _ => rfl))))) (pg_sub (pv 1) (pv 3) set_list)))) pss_nil))))
      (pss_cons (ps_lockO (ps_for (passes_of rfl) rfl (pi_any (K := K) rfl pe_str) (pg_name (i := 3) sc__law_rule.nd rfl (Or.inl rfl)) (pss_one (ps_if (pt_cmpR opGt (pe_callSD C__law_take.ok hr1 (by rfl) C__law_take.mg C__law_take.kp C__law_take.b .nil (fun σ => passAt (takes_of rfl rfl rfl rfl) σ) (pa_cons (pv 0) (pa_cons pe_int pa_nil))) pe_int (nomark _)) (pss_one (ps_or (ps_dput hu (pv 2) (pv 3) (pe_op (opAdd (K := K) rfl) pe_int (pe_callSD C__law_take.ok hr1 (by rfl) C__law_take.mg C__law_take.kp C__law_take.b .nil (fun σ => passAt (takes_of rfl rfl rfl rfl) σ) (pa_cons (pv 0) (pa_cons pe_int pa_nil)))) rfl) (ps_asg (pe_op (opAdd (K := K) rfl) pe_int (pe_callSD C__law_take.ok hr1 (by rfl) C__law_take.mg C__law_take.kp C__law_take.b .nil (fun σ => passAt (takes_of rfl rfl rfl rfl) σ) (pa_cons (pv 0) (pa_cons pe_int pa_nil)))) (pg_sub (pv 2) (pv 3) set_list)))) pss_nil))))
      (pss_one (ps_ret (pe_tup (pa_cons (pv 1) (pa_cons (pv 2) pa_nil)))))))),
    run_fnM (N := sc__law_rule_N) h ((sim_seq (sim_par (sim_cons sim_dnewC (sim_cons sim_dnewC sim_nil)))
      (sim_seq (sim_forE sim_c sim_gName (sim_ifS (sim_test (sim_op (sim_call (sim_cons sim_var (sim_cons sim_c sim_nil))) sim_c simr_eq)) (sim_setI (sim_m1 sim_c (sim_lc (simi_rng1 (sim_cons (sim_op (sim_lst (sim_cons sim_c (sim_cons sim_c (sim_cons sim_c (sim_cons sim_c (sim_cons sim_c sim_nil)))))) (sim_call (sim_cons sim_var (sim_cons sim_c sim_nil))) simr_ix) sim_nil)) sim_gName sim_yes (sim_op sim_c (sim_call (sim_cons sim_var (sim_cons sim_c sim_nil))) simr_ix) (ow_name (by decide))) simr_join) sim_var sim_var) sim_next))
      (sim_seq (sim_forE sim_c sim_gName (sim_ifS (sim_test (sim_op (sim_call (sim_cons sim_var (sim_cons sim_c sim_nil))) sim_c simr_gt)) (sim_setI (sim_op sim_c (sim_call (sim_cons sim_var (sim_cons sim_c sim_nil))) simr_add) sim_var sim_var) sim_next))
      (sim_ret (sim_tup (sim_cons sim_var (sim_cons sim_var sim_nil))))))))⟩
theorem ok_NoSign___init__ {f : Addr} {fd : FuncData} {k : Nat} (F : Fun K "__init__" "NoSign.__init__" s_NoSign___init__ f fd) (T : Txt K mg A) :
    FnOk P w K mg base (L2.CX P w) (k + 1) f fd ["self", "sign"] (spErI A.C_NoSign ["sign"]) :=
  F.okX sc_NoSign___init__ (fun vs H Q E h => spErI_len h) fun cdv A' outer s H vs Q E hr h => ⟨_, pss_one (ps_erF (pv 0) (pv 1)), er_init1 T.er_NoSign T.nf_NoSign_sign h _⟩
theorem ok_NoFold___init__ {f : Addr} {fd : FuncData} {k : Nat} (F : Fun K "__init__" "NoFold.__init__" s_NoFold___init__ f fd) (T : Txt K mg A) :
    FnOk P w K mg base (L2.CX P w) (k + 1) f fd ["self", "sign"] (spErI A.C_NoFold ["sign"]) :=
  F.okX sc_NoFold___init__ (fun vs H Q E h => spErI_len h) fun cdv A' outer s H vs Q E hr h => ⟨_, pss_one (ps_erF (pv 0) (pv 1)), er_init1 T.er_NoFold T.nf_NoFold_sign h _⟩
theorem ok_NoMark___init__ {f : Addr} {fd : FuncData} {k : Nat} (F : Fun K "__init__" "NoMark.__init__" s_NoMark___init__ f fd) (T : Txt K mg A) :
    FnOk P w K mg base (L2.CX P w) (k + 1) f fd ["self", "sign"] (spErI A.C_NoMark ["sign"]) :=
  F.okX sc_NoMark___init__ (fun vs H Q E h => spErI_len h) fun cdv A' outer s H vs Q E hr h => ⟨_, pss_one (ps_erF (pv 0) (pv 1)), er_init1 T.er_NoMark T.nf_NoMark_sign h _⟩
theorem ok_TooMany___init__ {f : Addr} {fd : FuncData} {k : Nat} (F : Fun K "__init__" "TooMany.__init__" s_TooMany___init__ f fd) (T : Txt K mg A) :
    FnOk P w K mg base (L2.CX P w) (k + 1) f fd ["self", "limit"] (spErI A.C_TooMany ["limit"]) :=
  F.okX sc_TooMany___init__ (fun vs H Q E h => spErI_len h) fun cdv A' outer s H vs Q E hr h => ⟨_, pss_one (ps_erF (pv 0) (pv 1)), er_init1 T.er_TooMany T.nf_TooMany_limit h _⟩
theorem ok_is_sign {f : Addr} {fd : FuncData} {k : Nat} (F : Fun K "is_sign" "is_sign" s_is_sign f fd) (T : Txt K mg A)
    : FnOk P w K mg base (L2.CX P w) (k + 1) f fd ["thing"] (spM (Gam K A) m_is_sign) := by
  refine FnOk.gc (F.okX sc_is_sign (fun vs H Q E h => spM_len h) fun cdv A' outer s H vs Q E hr h => ?_)
  have hr1 := hr
  have hu := hu_of hr
  have hu65 := hu65_of hr
  exact ⟨_, (pss_one (ps_ret (pe_and (pe_callB (cIsi (K := K) rfl) (by rfl) T.b_isinstance (by decide +kernel) (pa_cons (pv 0) (pa_cons (pe_bltn (v := .ty "str") (by rfl) T.b_str (by decide +kernel) rfl) pa_nil))) (pe_and (pe_cmpR (opEq (K := K) rfl hr.units) (pe_callB (callLen (K := K) rfl) (by rfl) T.b_len PySem.boot_len (pa_cons (pv 0) pa_nil)) pe_int (nomark _)) (pe_one (pe_cmpR (opIn (K := K) rfl hu65) (pv 0) (pe_gx (by rfl) T.c_SIGNS) (by rfl))))))),
    run_fnM (N := sc_is_sign_N) h ((sim_ret (sim_andV (sim_cb (sim_cons sim_var (sim_cons sim_c sim_nil)) simc_isi) (sim_andV (sim_op (sim_cb (sim_cons sim_var sim_nil) simc_len) sim_c simr_eq) (sim_op sim_var sim_c simr_in)))))⟩
end
end Nm
set_option Elab.async false
set_option linter.all false
set_option maxRecDepth 100000
set_option maxHeartbeats 4000000
namespace Nm
open PySem PySem.Spec PyProof.Rows L2 Evl
section
variable {P : Program} {w : World} {K : Fg} {mg : Str → Option Value} {base : Heap} {A : Ad}
theorem ok__is_word_up_to {f : Addr} {fd : FuncData} {k : Nat} (F : Fun K "_is_word_up_to" "_is_word_up_to" s__is_word_up_to f fd) (T : Txt K mg A)
    : FnOk P w K mg base (L2.CX P w) (k + 1) f fd ["thing", "most"] (spM (Gam K A) m__is_word_up_to) := by
  refine FnOk.gc (F.okX sc__is_word_up_to (fun vs H Q E h => spM_len h) fun cdv A' outer s H vs Q E hr h => ?_)
  have hr1 := hr
  have hu := hu_of hr
  have hu65 := hu65_of hr
  exact ⟨_, (pss_cons (ps_if (PW.pt (pw_or (pt_not (pt_val (pe_callB (cIsi (K := K) rfl) (by rfl) T.b_isinstance (by decide +kernel) (pa_cons (pv 0) (pa_cons (pe_bltn (v := .ty "str") (by rfl) T.b_str (by decide +kernel) rfl) pa_nil))))) (pw_or1 (pt_not (pt_chain (opLe (K := K) rfl hr.units0) (opLe (K := K) rfl hr.units0) pe_int (pe_callB (callLen (K := K) rfl) (by rfl) T.b_len PySem.boot_len (pa_cons (pv 0) pa_nil)) (pv 1)))))) (pss_one (ps_ret pe_bl)) pss_nil)
      (pss_one (ps_ret (pe_callB (cAll (K := K) rfl rfl) (by rfl) T.b_all (by decide +kernel) (pa_cons (pe_lockO (pe_lc (own := [("sign", 2)]) (g := (gName 2)) (tt := tYes) rfl sc__is_word_up_to.nd (pi_any (K := K) rfl (pv 0)) (blkOk_by (own := [("sign", 2)]) (N := sc__is_word_up_to_N) (sc := defScope s__is_word_up_to) (by decide +kernel)) (fun _ _ _ _ _ => (pg_name (i := 2) sc__is_word_up_to.nd rfl (Or.inl rfl))) (fun _ _ _ _ _ => pts_nil) (fun _ _ _ _ _ => (pe_cmpR (opIn (K := K) rfl hu65) (pv 2) (pe_gx (by rfl) T.c_SIGNS) (by rfl))))) pa_nil))))),
    run_fnM (N := sc__is_word_up_to_N) h ((sim_seq (sim_ifS (sim_or (sim_not (sim_B (sim_cb (sim_cons sim_var (sim_cons sim_c sim_nil)) simc_isi))) (sim_not (sim_test (sim_chain sim_c (sim_cb (sim_cons sim_var sim_nil) simc_len) sim_var simr_le simr_le)))) (sim_ret sim_c) sim_next)
      (sim_ret (sim_cb (sim_cons (sim_lcA sim_gName sim_yes (sim_op sim_var sim_c simr_in) (ow_name (by decide))) sim_nil) simc_all))))⟩
theorem ok__is_fold_word {f f0 : Addr} {fd d0 : FuncData} {k : Nat} (F : Fun K "_is_fold_word" "_is_fold_word" s__is_fold_word f fd) (T : Txt K mg A)
    (C__is_word_up_to : Cal P w K mg base (L2.CX P w) k "_is_word_up_to" ["thing", "most"] (spM (Gam K A) m__is_word_up_to) f0 d0)
    : FnOk P w K mg base (L2.CX P w) (k + 1) f fd ["thing"] (spM (Gam K A) m__is_fold_word) := by
  refine FnOk.gc (F.okX sc__is_fold_word (fun vs H Q E h => spM_len h) fun cdv A' outer s H vs Q E hr h => ?_)
  have hr1 := hr
  have hu := hu_of hr
  have hu65 := hu65_of hr
  exact ⟨_, (pss_one (ps_ret (pe_callSD C__is_word_up_to.ok hr1 (by rfl) C__is_word_up_to.mg C__is_word_up_to.kp C__is_word_up_to.b .nil (fun σ => passAt (takes_of rfl rfl rfl rfl) σ) (pa_cons (pv 0) (pa_cons (pe_gx (by rfl) T.c_LONGEST_FOLD) pa_nil))))),
    run_fnM (N := sc__is_fold_word_N) h ((sim_ret (sim_call (sim_cons sim_var (sim_cons sim_c sim_nil)))))⟩
theorem ok__check_folds {f f0 f2 : Addr} {fd d0 d1 d2 d3 : FuncData} {k : Nat} (F : Fun K "_check_folds" "_check_folds" s__check_folds f fd) (T : Txt K mg A)
    (C_is_sign : Cal P w K mg base (L2.CX P w) k "is_sign" ["thing"] (spM (Gam K A) m_is_sign) f0 d0)
    (C_NoSign___init__ : CalN P w K mg base (L2.CX P w) k ["self", "sign"] (spErI A.C_NoSign ["sign"]) A.f_NoSign___init__ d1)
    (C__is_fold_word : Cal P w K mg base (L2.CX P w) k "_is_fold_word" ["thing"] (spM (Gam K A) m__is_fold_word) f2 d2)
    (C_NoFold___init__ : CalN P w K mg base (L2.CX P w) k ["self", "sign"] (spErI A.C_NoFold ["sign"]) A.f_NoFold___init__ d3)
    : FnOk P w K mg base (L2.CX P w) (k + 2) f fd ["folds"] (spM (Gam K A) m__check_folds) := by
  refine FnOk.gc (F.okX sc__check_folds (fun vs H Q E h => spM_len h) fun cdv A' outer s H vs Q E hr h => ?_)
  have hr1 : Room k _ := hr.mono (by omega)
  have hu := hu_of hr
  have hu65 := hu65_of hr
  exact ⟨_, (pss_one (ps_lockO (ps_for (passes_of rfl) rfl (pi_any (K := K) rfl (pe_callB (callSorted (K := K) rfl rfl) (by rfl) T.b_sorted (by decide +kernel) (pa_cons (pv 0) pa_nil))) (pg_name (i := 1) sc__check_folds.nd rfl (Or.inl rfl)) (pss_cons (ps_if (pt_not (pt_val (pe_callSD C_is_sign.ok hr1 (by rfl) C_is_sign.mg C_is_sign.kp C_is_sign.b .nil (fun σ => passAt (takes_of rfl rfl rfl rfl) σ) (pa_cons (pv 1) pa_nil)))) (pss_one (ps_raise rfl (takes_of rfl rfl rfl rfl) (pmk_er T.er_NoSign T.iC_NoSign T.tI_NoSign C_NoSign___init__.ok hr C_NoSign___init__.b .nil passesF (by rfl) T.mg_NoSign (pa_cons (pv 1) pa_nil)))) pss_nil)
      (pss_cons (ps_if (pt_not (pt_val (pe_callSD C__is_fold_word.ok hr1 (by rfl) C__is_fold_word.mg C__is_fold_word.kp C__is_fold_word.b .nil (fun σ => passAt (takes_of rfl rfl rfl rfl) σ) (pa_cons (pe_ix (ixA (K := K) rfl hu) (pv 0) (pv 1) (fun _ _ => rfl)) pa_nil)))) (pss_one (ps_raise rfl (takes_of rfl rfl rfl rfl) (pmk_er T.er_NoFold T.iC_NoFold T.tI_NoFold C_NoFold___init__.ok hr C_NoFold___init__.b .nil passesF (by rfl) T.mg_NoFold (pa_cons (pv 1) pa_nil)))) pss_nil)
      (pss_one (ps_if (pt_val (pe_callB (cAny (K := K) rfl rfl) (by rfl) T.b_any (by decide +kernel) (pa_cons (pe_lockO (pe_lc (own := [("sign", 2)]) (g := (gName 2)) (tt := tYes) rfl sc__check_folds.nd (pi_any (K := K) rfl (pe_ix (ixA (K := K) rfl hu) (pv 0) (pv 1) (fun _ _ => rfl))) (blkOk_by (own := [("sign", 2)]) (N := sc__check_folds_N) (sc := defScope s__check_folds) (by decide +kernel)) (fun _ _ _ _ _ => (pg_name (i := 2) sc__check_folds.nd rfl (Or.inl rfl))) (fun _ _ _ _ _ => pts_nil) (fun _ _ _ _ _ => (pe_cmpR (opIn (K := K) rfl hu65) (pv 2) (pv 0) (by rfl))))) pa_nil))) (pss_one (ps_raise rfl (takes_of rfl rfl rfl rfl) (pmk_er T.er_NoFold T.iC_NoFold T.tI_NoFold C_NoFold___init__.ok hr C_NoFold___init__.b .nil passesF (by rfl) T.mg_NoFold (pa_cons (pv 1) pa_nil)))) pss_nil))))))),
    run_fnM (N := sc__check_folds_N) h ((sim_forE (sim_cb (sim_cons sim_var sim_nil) simc_sorted) sim_gName (sim_seq (sim_ifS (sim_not (sim_B (sim_call (sim_cons sim_var sim_nil)))) (sim_raise T.cl_NoSign (sim_cons sim_var sim_nil)) sim_next)
      (sim_seq (sim_ifS (sim_not (sim_B (sim_call (sim_cons (sim_op sim_var sim_var simr_ix) sim_nil)))) (sim_raise T.cl_NoFold (sim_cons sim_var sim_nil)) sim_next)
      (sim_ifS (sim_B (sim_cb (sim_cons (sim_lcE (sim_op sim_var sim_var simr_ix) sim_gName sim_yes (sim_op sim_var sim_var simr_in) (ow_name (by decide))) sim_nil) simc_any)) (sim_raise T.cl_NoFold (sim_cons sim_var sim_nil)) sim_next)))))⟩
theorem ok_is_number {f : Addr} {fd : FuncData} {k : Nat} (F : Fun K "is_number" "is_number" s_is_number f fd) (T : Txt K mg A)
    : FnOk P w K mg base (L2.CX P w) (k + 1) f fd ["thing"] (spM (Gam K A) m_is_number) := by
  refine FnOk.gc (F.okX sc_is_number (fun vs H Q E h => spM_len h) fun cdv A' outer s H vs Q E hr h => ?_)
  have hr1 := hr
  have hu := hu_of hr
  have hu65 := hu65_of hr
  exact ⟨_, (pss_one (ps_ret (pe_and (pe_callB (cIsi (K := K) rfl) (by rfl) T.b_isinstance (by decide +kernel) (pa_cons (pv 0) (pa_cons (pe_bltn (v := .ty "int") (by rfl) T.b_int (by decide +kernel) rfl) pa_nil))) (pe_one (pe_not (pe_callB (cIsi (K := K) rfl) (by rfl) T.b_isinstance (by decide +kernel) (pa_cons (pv 0) (pa_cons (pe_bltn (v := .ty "bool") (by rfl) T.b_bool (by decide +kernel) rfl) pa_nil)))))))),
    run_fnM (N := sc_is_number_N) h ((sim_ret (sim_andV (sim_cb (sim_cons sim_var (sim_cons sim_c sim_nil)) simc_isi) (sim_notV (sim_cb (sim_cons sim_var (sim_cons sim_c sim_nil)) simc_isi)))))⟩
theorem ok__is_mark_class {f f0 : Addr} {fd d0 : FuncData} {k : Nat} (F : Fun K "_is_mark_class" "_is_mark_class" s__is_mark_class f fd) (T : Txt K mg A)
    (C_is_number : Cal P w K mg base (L2.CX P w) k "is_number" ["thing"] (spM (Gam K A) m_is_number) f0 d0)
    : FnOk P w K mg base (L2.CX P w) (k + 1) f fd ["thing"] (spM (Gam K A) m__is_mark_class) := by
  refine FnOk.gc (F.okX sc__is_mark_class (fun vs H Q E h => spM_len h) fun cdv A' outer s H vs Q E hr h => ?_)
  have hr1 := hr
  have hu := hu_of hr
  have hu65 := hu65_of hr
  exact ⟨_, (pss_one (ps_ret (pe_and (pe_callSD C_is_number.ok hr1 (by rfl) C_is_number.mg C_is_number.kp C_is_number.b .nil (fun σ => passAt (takes_of rfl rfl rfl rfl) σ) (pa_cons (pv 0) pa_nil)) (pe_one (pe_cmpR (opIn (K := K) rfl hu65) (pv 0) (pe_gx (by rfl) T.c_MARK_CLASSES) (by rfl)))))),
    run_fnM (N := sc__is_mark_class_N) h ((sim_ret (sim_andV (sim_call (sim_cons sim_var sim_nil)) (sim_op sim_var (sim_kon T.k_MARK_CLASSES) simr_in))))⟩
theorem ok__check_marks {f f0 f2 : Addr} {fd d0 d1 d2 d3 : FuncData} {k : Nat} (F : Fun K "_check_marks" "_check_marks" s__check_marks f fd) (T : Txt K mg A)
    (C_is_sign : Cal P w K mg base (L2.CX P w) k "is_sign" ["thing"] (spM (Gam K A) m_is_sign) f0 d0)
    (C_NoSign___init__ : CalN P w K mg base (L2.CX P w) k ["self", "sign"] (spErI A.C_NoSign ["sign"]) A.f_NoSign___init__ d1)
    (C__is_mark_class : Cal P w K mg base (L2.CX P w) k "_is_mark_class" ["thing"] (spM (Gam K A) m__is_mark_class) f2 d2)
    (C_NoMark___init__ : CalN P w K mg base (L2.CX P w) k ["self", "sign"] (spErI A.C_NoMark ["sign"]) A.f_NoMark___init__ d3)
    : FnOk P w K mg base (L2.CX P w) (k + 2) f fd ["marks", "folds"] (spM (Gam K A) m__check_marks) := by
  refine FnOk.gc (F.okX sc__check_marks (fun vs H Q E h => spM_len h) fun cdv A' outer s H vs Q E hr h => ?_)
  have hr1 : Room k _ := hr.mono (by omega)
  have hu := hu_of hr
  have hu65 := hu65_of hr
  exact ⟨_, (pss_one (ps_lockO (ps_for (passes_of rfl) rfl (pi_any (K := K) rfl (pe_callB (callSorted (K := K) rfl rfl) (by rfl) T.b_sorted (by decide +kernel) (pa_cons (pv 0) pa_nil))) (pg_name (i := 2) sc__check_marks.nd rfl (Or.inl rfl)) (pss_cons (ps_if (pt_not (pt_val (pe_callSD C_is_sign.ok hr1 (by rfl) C_is_sign.mg C_is_sign.kp C_is_sign.b .nil (fun σ => passAt (takes_of rfl rfl rfl rfl) σ) (pa_cons (pv 2) pa_nil)))) (pss_one (ps_raise rfl (takes_of rfl rfl rfl rfl) (pmk_er T.er_NoSign T.iC_NoSign T.tI_NoSign C_NoSign___init__.ok hr C_NoSign___init__.b .nil passesF (by rfl) T.mg_NoSign (pa_cons (pv 2) pa_nil)))) pss_nil)
      (pss_one (ps_if (PW.pt (pw_or (pt_not (pt_val (pe_callSD C__is_mark_class.ok hr1 (by rfl) C__is_mark_class.mg C__is_mark_class.kp C__is_mark_class.b .nil (fun σ => passAt (takes_of rfl rfl rfl rfl) σ) (pa_cons (pe_ix (ixA (K := K) rfl hu) (pv 0) (pv 2) (fun _ _ => rfl)) pa_nil)))) (pw_or1 (pt_cmpR (opIn (K := K) rfl hu65) (pv 2) (pv 1) (by rfl))))) (pss_one (ps_raise rfl (takes_of rfl rfl rfl rfl) (pmk_er T.er_NoMark T.iC_NoMark T.tI_NoMark C_NoMark___init__.ok hr C_NoMark___init__.b .nil passesF (by rfl) T.mg_NoMark (pa_cons (pv 2) pa_nil)))) pss_nil)))))),
    run_fnM (N := sc__check_marks_N) h ((sim_forE (sim_cb (sim_cons sim_var sim_nil) simc_sorted) sim_gName (sim_seq (sim_ifS (sim_not (sim_B (sim_call (sim_cons sim_var sim_nil)))) (sim_raise T.cl_NoSign (sim_cons sim_var sim_nil)) sim_next)
      (sim_ifS (sim_or (sim_not (sim_B (sim_call (sim_cons (sim_op sim_var sim_var simr_ix) sim_nil)))) (sim_test (sim_op sim_var sim_var simr_in))) (sim_raise T.cl_NoMark (sim_cons sim_var sim_nil)) sim_next))))⟩
theorem ok__check_sizes {f : Addr} {fd d0 : FuncData} {k : Nat} (F : Fun K "_check_sizes" "_check_sizes" s__check_sizes f fd) (T : Txt K mg A)
    (C_TooMany___init__ : CalN P w K mg base (L2.CX P w) k ["self", "limit"] (spErI A.C_TooMany ["limit"]) A.f_TooMany___init__ d0)
    : FnOk P w K mg base (L2.CX P w) (k + 2) f fd ["folds", "marks"] (spM (Gam K A) m__check_sizes) := by
  refine FnOk.gc (F.okX sc__check_sizes (fun vs H Q E h => spM_len h) fun cdv A' outer s H vs Q E hr h => ?_)
  have hr1 : Room k _ := hr.mono (by omega)
  have hu := hu_of hr
  have hu65 := hu65_of hr
  exact ⟨_, (pss_cons (ps_if (pt_cmpR opGt (pe_callB (callLen (K := K) rfl) (by rfl) T.b_len PySem.boot_len (pa_cons (pv 0) pa_nil)) (pe_gx (by rfl) T.c_MOST_FOLDS) (nomark _)) (pss_one (ps_raise rfl (takes_of rfl rfl rfl rfl) (pmk_er T.er_TooMany T.iC_TooMany T.tI_TooMany C_TooMany___init__.ok hr C_TooMany___init__.b .nil passesF (by rfl) T.mg_TooMany (pa_cons (pe_gx (by rfl) T.c_MOST_FOLDS) pa_nil)))) pss_nil)
      (pss_one (ps_if (pt_cmpR opGt (pe_callB (callLen (K := K) rfl) (by rfl) T.b_len PySem.boot_len (pa_cons (pv 1) pa_nil)) (pe_gx (by rfl) T.c_MOST_MARKS) (nomark _)) (pss_one (ps_raise rfl (takes_of rfl rfl rfl rfl) (pmk_er T.er_TooMany T.iC_TooMany T.tI_TooMany C_TooMany___init__.ok hr C_TooMany___init__.b .nil passesF (by rfl) T.mg_TooMany (pa_cons (pe_gx (by rfl) T.c_MOST_MARKS) pa_nil)))) pss_nil))),
    run_fnM (N := sc__check_sizes_N) h ((sim_seq (sim_ifS (sim_test (sim_op (sim_cb (sim_cons sim_var sim_nil) simc_len) sim_c simr_gt)) (sim_raise T.cl_TooMany (sim_cons sim_c sim_nil)) sim_next)
      (sim_ifS (sim_test (sim_op (sim_cb (sim_cons sim_var sim_nil) simc_len) sim_c simr_gt)) (sim_raise T.cl_TooMany (sim_cons sim_c sim_nil)) sim_next)))⟩
end
end Nm
set_option Elab.async false
set_option linter.all false
set_option maxRecDepth 100000
set_option maxHeartbeats 4000000
namespace Nm
open PySem PySem.Spec PyProof.Rows L2 Evl
section
variable {P : Program} {w : World} {K : Fg} {mg : Str → Option Value} {base : Heap} {A : Ad}
theorem ok_Table___init__ {f f0 f1 f2 : Addr} {fd d0 d1 d2 : FuncData} {k : Nat} (F : Fun K "__init__" "Table.__init__" s_Table___init__ f fd) (T : Txt K mg A)
    (C__check_folds : Cal P w K mg base (L2.CX P w) k "_check_folds" ["folds"] (spM (Gam K A) m__check_folds) f0 d0)
    (C__check_marks : Cal P w K mg base (L2.CX P w) k "_check_marks" ["marks", "folds"] (spM (Gam K A) m__check_marks) f1 d1)
    (C__check_sizes : Cal P w K mg base (L2.CX P w) k "_check_sizes" ["folds", "marks"] (spM (Gam K A) m__check_sizes) f2 d2)
    : FnOk P w K mg base (L2.CX P w) (k + 1) f fd ["self", "folds", "marks"] (spM (Gam K A) m_Table___init__) := by
  refine FnOk.gc (F.okX sc_Table___init__ (fun vs H Q E h => spM_len h) fun cdv A' outer s H vs Q E hr h => ?_)
  have hr1 := hr
  have hu := hu_of hr
  have hu65 := hu65_of hr
  exact ⟨_, (pss_cons (ps_expr (pe_callSD C__check_folds.ok hr1 (by rfl) C__check_folds.mg C__check_folds.kp C__check_folds.b .nil (fun σ => passAt (takes_of rfl rfl rfl rfl) σ) (pa_cons (pv 1) pa_nil)))
      (pss_cons (ps_expr (pe_callSD C__check_marks.ok hr1 (by rfl) C__check_marks.mg C__check_marks.kp C__check_marks.b .nil (fun σ => passAt (takes_of rfl rfl rfl rfl) σ) (pa_cons (pv 2) (pa_cons (pv 1) pa_nil))))
      (pss_cons (ps_expr (pe_callSD C__check_sizes.ok hr1 (by rfl) C__check_sizes.mg C__check_sizes.kp C__check_sizes.b .nil (fun σ => passAt (takes_of rfl rfl rfl rfl) σ) (pa_cons (pv 1) (pa_cons (pv 2) pa_nil))))
      (pss_cons (ps_fld (pv 0) (pe_callTy call_dictD (by rfl) T.b_dict (by decide +kernel) (pa_cons (pv 1) pa_nil)) rfl)
      (pss_one (ps_fld (pv 0) (pe_callTy call_dictD (by rfl) T.b_dict (by decide +kernel) (pa_cons (pv 2) pa_nil)) rfl)))))),
    run_fnM (N := sc_Table___init___N) h ((sim_seq (sim_drop (sim_call (sim_cons sim_var sim_nil)))
      (sim_seq (sim_drop (sim_call (sim_cons sim_var (sim_cons sim_var sim_nil))))
      (sim_seq (sim_drop (sim_call (sim_cons sim_var (sim_cons sim_var sim_nil))))
      (sim_seq (sim_sfld T.f__folds sim_var (sim_cb (sim_cons sim_var sim_nil) simc_dict))
      (sim_sfld T.f__marks sim_var (sim_cb (sim_cons sim_var sim_nil) simc_dict)))))))⟩
theorem ok_NoWord___init__ {f : Addr} {fd : FuncData} {k : Nat} (F : Fun K "__init__" "NoWord.__init__" s_NoWord___init__ f fd) (T : Txt K mg A) :
    FnOk P w K mg base (L2.CX P w) (k + 1) f fd ["self", "word"] (spErI A.C_NoWord ["word"]) :=
  F.okX sc_NoWord___init__ (fun vs H Q E h => spErI_len h) fun cdv A' outer s H vs Q E hr h => ⟨_, pss_one (ps_erF (pv 0) (pv 1)), er_init1 T.er_NoWord T.nf_NoWord_word h _⟩
theorem ok_NoDeed___init__ {f : Addr} {fd : FuncData} {k : Nat} (F : Fun K "__init__" "NoDeed.__init__" s_NoDeed___init__ f fd) (T : Txt K mg A) :
    FnOk P w K mg base (L2.CX P w) (k + 1) f fd ["self", "at"] (spErI A.C_NoDeed ["at"]) :=
  F.okX sc_NoDeed___init__ (fun vs H Q E h => spErI_len h) fun cdv A' outer s H vs Q E hr h => ⟨_, pss_one (ps_erF (pv 0) (pv 1)), er_init1 T.er_NoDeed T.nf_NoDeed_at h _⟩
theorem ok_NoPath___init__ {f : Addr} {fd : FuncData} {k : Nat} (F : Fun K "__init__" "NoPath.__init__" s_NoPath___init__ f fd) (T : Txt K mg A) :
    FnOk P w K mg base (L2.CX P w) (k + 1) f fd ["self", "path"] (spErI A.C_NoPath ["path"]) :=
  F.okX sc_NoPath___init__ (fun vs H Q E h => spErI_len h) fun cdv A' outer s H vs Q E hr h => ⟨_, pss_one (ps_erF (pv 0) (pv 1)), er_init1 T.er_NoPath T.nf_NoPath_path h _⟩
theorem ok_NoText___init__ {f : Addr} {fd : FuncData} {k : Nat} (F : Fun K "__init__" "NoText.__init__" s_NoText___init__ f fd) (T : Txt K mg A) :
    FnOk P w K mg base (L2.CX P w) (k + 1) f fd ["self", "index"] (spErI A.C_NoText ["index"]) :=
  F.okX sc_NoText___init__ (fun vs H Q E h => spErI_len h) fun cdv A' outer s H vs Q E hr h => ⟨_, pss_one (ps_erF (pv 0) (pv 1)), er_init1 T.er_NoText T.nf_NoText_index h _⟩
theorem ok__law_alone {f : Addr} {fd : FuncData} {k : Nat} (F : Fun K "_law_alone" "_law_alone" s__law_alone f fd) (T : Txt K mg A)
    : FnA P w (Gam K A) mg base (L2.CX P w) (k + 1) f fd "_law_e" q__law_alone := by
  refine FnA.gc (fnA_of (Γ := Gam K A) F sc__law_alone fun cdv A' outer s H E p C d hr hz hf => ?_)
  have hr1 := hr
  have hu := hu_ofH hr
  have hu65 := hu65_ofH hr
  exact ⟨_, (pss_cons (ps_set (i := 1) sc__law_alone.nd rfl (Or.inl rfl) (pe_lstS (pa_cons (pe_callB (call_isA rfl hz hf List.mem_cons_self) (by rfl) T.b_isinstance (by decide +kernel) (pa_cons (pv 0) (pa_cons (pe_glob (v := .ref A.C_NoSign) (by rfl) T.mg_NoSign rfl) pa_nil))) (pa_cons (pe_callB (call_isA rfl hz hf List.mem_cons_self) (by rfl) T.b_isinstance (by decide +kernel) (pa_cons (pv 0) (pa_cons (pe_glob (v := .ref A.C_NoFold) (by rfl) T.mg_NoFold rfl) pa_nil))) (pa_cons (pe_callB (call_isA rfl hz hf List.mem_cons_self) (by rfl) T.b_isinstance (by decide +kernel) (pa_cons (pv 0) (pa_cons (pe_glob (v := .ref A.C_NoMark) (by rfl) T.mg_NoMark rfl) pa_nil))) (pa_cons (pe_callB (call_isA rfl hz hf List.mem_cons_self) (by rfl) T.b_isinstance (by decide +kernel) (pa_cons (pv 0) (pa_cons (pe_glob (v := .ref A.C_NoWord) (by rfl) T.mg_NoWord rfl) pa_nil))) pa_nil))))))
      (pss_cons (ps_set (i := 1) sc__law_alone.nd rfl (Or.inl rfl) (pe_op (opAdd (K := K) rfl) (pv 1) (pe_lstS (pa_cons (pe_callB (call_isA rfl hz hf List.mem_cons_self) (by rfl) T.b_isinstance (by decide +kernel) (pa_cons (pv 0) (pa_cons (pe_tup (pa_cons (pe_glob (v := .ref A.C_NoCommand) (by rfl) T.mg_NoCommand rfl) (pa_cons (pe_glob (v := .ref A.C_NoDeed) (by rfl) T.mg_NoDeed rfl) pa_nil))) pa_nil))) (pa_cons (pe_callB (call_isA rfl hz hf List.mem_cons_self) (by rfl) T.b_isinstance (by decide +kernel) (pa_cons (pv 0) (pa_cons (pe_tup (pa_cons (pe_glob (v := .ref A.C_NoPath) (by rfl) T.mg_NoPath rfl) (pa_cons (pe_glob (v := .ref A.C_NoText) (by rfl) T.mg_NoText rfl) pa_nil))) pa_nil))) pa_nil)))))
      (pss_one (ps_ret (pe_and (pe_cmpR (opEq (K := K) rfl hr.units) (pe_bm PySem.F.plainAttrs_list PySem.F.slot_list_count PySem.F.type_list_count (mtCntL (K := K) rfl) (pv 1) (pa_cons pe_bl pa_nil)) pe_int (nomark _)) (pe_and (pe_callB (call_isA rfl hz hf List.mem_cons_self) (by rfl) T.b_isinstance (by decide +kernel) (pa_cons (pv 0) (pa_cons (pe_bltn (v := .ty "ValueError") (by rfl) T.b_ValueError (by decide +kernel) rfl) pa_nil))) (pe_one (pe_not (pe_callB (call_isA rfl hz hf List.mem_cons_self) (by rfl) T.b_isinstance (by decide +kernel) (pa_cons (pv 0) (pa_cons (pe_bltn (v := .ty "OverflowError") (by rfl) T.b_OverflowError (by decide +kernel) rfl) pa_nil))))))))))),
    (sim_seq (sim_asg (sim_lst (sim_cons (sim_xisC (ev_cons T.cl_NoSign T.ev_NoSign (ev_cons T.cl_NoFold T.ev_NoFold (ev_cons T.cl_NoMark T.ev_NoMark (ev_cons T.cl_NoWord T.ev_NoWord (ev_cons T.cl_NoPath T.ev_NoPath (ev_cons T.cl_NoDeed T.ev_NoDeed (ev_cons T.cl_NoText T.ev_NoText (ev_cons T.cl_NoCommand T.ev_NoCommand (ev_cons T.cl_TooMany T.ev_TooMany ev_nil))))))))) (sim_kon fun _ _ => .cls T.cl_NoSign)) (sim_cons (sim_xisC (ev_cons T.cl_NoSign T.ev_NoSign (ev_cons T.cl_NoFold T.ev_NoFold (ev_cons T.cl_NoMark T.ev_NoMark (ev_cons T.cl_NoWord T.ev_NoWord (ev_cons T.cl_NoPath T.ev_NoPath (ev_cons T.cl_NoDeed T.ev_NoDeed (ev_cons T.cl_NoText T.ev_NoText (ev_cons T.cl_NoCommand T.ev_NoCommand (ev_cons T.cl_TooMany T.ev_TooMany ev_nil))))))))) (sim_kon fun _ _ => .cls T.cl_NoFold)) (sim_cons (sim_xisC (ev_cons T.cl_NoSign T.ev_NoSign (ev_cons T.cl_NoFold T.ev_NoFold (ev_cons T.cl_NoMark T.ev_NoMark (ev_cons T.cl_NoWord T.ev_NoWord (ev_cons T.cl_NoPath T.ev_NoPath (ev_cons T.cl_NoDeed T.ev_NoDeed (ev_cons T.cl_NoText T.ev_NoText (ev_cons T.cl_NoCommand T.ev_NoCommand (ev_cons T.cl_TooMany T.ev_TooMany ev_nil))))))))) (sim_kon fun _ _ => .cls T.cl_NoMark)) (sim_cons (sim_xisC (ev_cons T.cl_NoSign T.ev_NoSign (ev_cons T.cl_NoFold T.ev_NoFold (ev_cons T.cl_NoMark T.ev_NoMark (ev_cons T.cl_NoWord T.ev_NoWord (ev_cons T.cl_NoPath T.ev_NoPath (ev_cons T.cl_NoDeed T.ev_NoDeed (ev_cons T.cl_NoText T.ev_NoText (ev_cons T.cl_NoCommand T.ev_NoCommand (ev_cons T.cl_TooMany T.ev_TooMany ev_nil))))))))) (sim_kon fun _ _ => .cls T.cl_NoWord)) sim_nil))))) sim_gName)
      (sim_seq (sim_asg (sim_op sim_var (sim_lst (sim_cons (sim_xisC (ev_cons T.cl_NoSign T.ev_NoSign (ev_cons T.cl_NoFold T.ev_NoFold (ev_cons T.cl_NoMark T.ev_NoMark (ev_cons T.cl_NoWord T.ev_NoWord (ev_cons T.cl_NoPath T.ev_NoPath (ev_cons T.cl_NoDeed T.ev_NoDeed (ev_cons T.cl_NoText T.ev_NoText (ev_cons T.cl_NoCommand T.ev_NoCommand (ev_cons T.cl_TooMany T.ev_TooMany ev_nil))))))))) (sim_tup (sim_cons (sim_kon fun _ _ => .cls T.cl_NoCommand) (sim_cons (sim_kon fun _ _ => .cls T.cl_NoDeed) sim_nil)))) (sim_cons (sim_xisC (ev_cons T.cl_NoSign T.ev_NoSign (ev_cons T.cl_NoFold T.ev_NoFold (ev_cons T.cl_NoMark T.ev_NoMark (ev_cons T.cl_NoWord T.ev_NoWord (ev_cons T.cl_NoPath T.ev_NoPath (ev_cons T.cl_NoDeed T.ev_NoDeed (ev_cons T.cl_NoText T.ev_NoText (ev_cons T.cl_NoCommand T.ev_NoCommand (ev_cons T.cl_TooMany T.ev_TooMany ev_nil))))))))) (sim_tup (sim_cons (sim_kon fun _ _ => .cls T.cl_NoPath) (sim_cons (sim_kon fun _ _ => .cls T.cl_NoText) sim_nil)))) sim_nil))) simr_add) sim_gName)
      (sim_ret (sim_andV (sim_op (sim_cntL sim_var (sim_cons sim_c sim_nil)) sim_c simr_eq) (sim_andV (sim_xisB (by decide +kernel) (ev_cons T.cl_NoSign T.ev_NoSign (ev_cons T.cl_NoFold T.ev_NoFold (ev_cons T.cl_NoMark T.ev_NoMark (ev_cons T.cl_NoWord T.ev_NoWord (ev_cons T.cl_NoPath T.ev_NoPath (ev_cons T.cl_NoDeed T.ev_NoDeed (ev_cons T.cl_NoText T.ev_NoText (ev_cons T.cl_NoCommand T.ev_NoCommand (ev_cons T.cl_TooMany T.ev_TooMany ev_nil)))))))))) (sim_notV (sim_xisB (by decide +kernel) (ev_cons T.cl_NoSign T.ev_NoSign (ev_cons T.cl_NoFold T.ev_NoFold (ev_cons T.cl_NoMark T.ev_NoMark (ev_cons T.cl_NoWord T.ev_NoWord (ev_cons T.cl_NoPath T.ev_NoPath (ev_cons T.cl_NoDeed T.ev_NoDeed (ev_cons T.cl_NoText T.ev_NoText (ev_cons T.cl_NoCommand T.ev_NoCommand (ev_cons T.cl_TooMany T.ev_TooMany ev_nil))))))))))))))))⟩
end
end Nm
set_option Elab.async false
set_option linter.all false
set_option maxRecDepth 100000
set_option maxHeartbeats 4000000
namespace Nm
open PySem PySem.Spec PyProof.Rows L2 Evl
section
variable {P : Program} {w : World} {K : Fg} {mg : Str → Option Value} {base : Heap} {A : Ad}
theorem ok__law_error {f f1 : Addr} {fd d0 d1 : FuncData} {k : Nat} (F : Fun K "_law_error" "_law_error" s__law_error f fd) (T : Txt K mg A) (er : ErOk (Gam K A))
    (C_Table___init__ : CalN P w K mg base (L2.CX P w) k ["self", "folds", "marks"] (spM (Gam K A) m_Table___init__) A.f_Table___init__ d0)
    (C__law_alone : CalA P w (Gam K A) mg base k "_law_alone" "_law_e" q__law_alone f1 d1)
    : FnOk P w K mg base (L2.CX P w) (k + 2) f fd ["_law_folds", "_law_marks"] (spM (Gam K A) q__law_error) := by
  refine FnOk.gc (F.okX sc__law_error (fun vs H Q E h => spM_len h) fun cdv A' outer s H vs Q E hr h => ?_)
  have hr1 : Room k _ := hr.mono (by omega)
  have hu := hu_of hr
  have hu65 := hu65_of hr
  exact ⟨_, (pss_cons (ps_tryX rfl rfl (takes_of rfl rfl rfl rfl) (fun _ _ _ tk1 po1 => (pss_one (ps_expr (pe_makeS T.mk_Table C_Table___init__.ok hr (by rfl) T.mg_Table C_Table___init__.b .nil (fun σ => passAt tk1 σ) (pa_cons (pv 0) (pa_cons (pv 1) pa_nil)))))) (.named sc__law_error.nd (i := 2) rfl rfl (test_one (T.nx_NoSign rfl)) (fun _ _ _ _ _ hz hf => (pss_one (ps_ret (pe_ifExp (pt_val (pe_callA C__law_alone.ok rfl (roomH_mk hr1 _) hz hf List.mem_cons_self (by rfl) C__law_alone.mg C__law_alone.kp C__law_alone.b (pa_cons (pv 2) pa_nil))) (pe_tup (pa_cons pe_str (pa_cons (pe_xf T.xf_NoSign T.nf_NoSign_sign hz hf (pv 2)) pa_nil))) (pe_tup (pa_cons pe_str (pa_cons pe_str pa_nil))))))) (.named sc__law_error.nd (i := 2) rfl rfl (test_one (T.nx_NoFold rfl)) (fun _ _ _ _ _ hz hf => (pss_one (ps_ret (pe_ifExp (pt_val (pe_callA C__law_alone.ok rfl (roomH_mk hr1 _) hz hf List.mem_cons_self (by rfl) C__law_alone.mg C__law_alone.kp C__law_alone.b (pa_cons (pv 2) pa_nil))) (pe_tup (pa_cons pe_str (pa_cons (pe_xf T.xf_NoFold T.nf_NoFold_sign hz hf (pv 2)) pa_nil))) (pe_tup (pa_cons pe_str (pa_cons pe_str pa_nil))))))) (.named sc__law_error.nd (i := 2) rfl rfl (test_one (T.nx_NoMark rfl)) (fun _ _ _ _ _ hz hf => (pss_one (ps_ret (pe_ifExp (pt_val (pe_callA C__law_alone.ok rfl (roomH_mk hr1 _) hz hf List.mem_cons_self (by rfl) C__law_alone.mg C__law_alone.kp C__law_alone.b (pa_cons (pv 2) pa_nil))) (pe_tup (pa_cons pe_str (pa_cons (pe_xf T.xf_NoMark T.nf_NoMark_sign hz hf (pv 2)) pa_nil))) (pe_tup (pa_cons pe_str (pa_cons pe_str pa_nil))))))) (.named sc__law_error.nd (i := 2) rfl rfl (test_one (T.nx_TooMany rfl)) (fun _ _ _ _ _ hz hf => (pss_one (ps_ret (pe_ifExp (PW.pt (pw_and (pt_val (pe_callB (call_isX T.ex_TooMany hz hf) (by rfl) T.b_isinstance (by decide +kernel) (pa_cons (pv 2) (pa_cons (pe_bltn (v := .ty "OverflowError") (by rfl) T.b_OverflowError (by decide +kernel) rfl) pa_nil)))) (pw_and1 (pt_not (pt_val (pe_callB (call_isX T.ex_TooMany hz hf) (by rfl) T.b_isinstance (by decide +kernel) (pa_cons (pv 2) (pa_cons (pe_bltn (v := .ty "ValueError") (by rfl) T.b_ValueError (by decide +kernel) rfl) pa_nil)))))))) (pe_tup (pa_cons pe_str (pa_cons (pe_xf T.xf_TooMany T.nf_TooMany_limit hz hf (pv 2)) pa_nil))) (pe_tup (pa_cons pe_str (pa_cons pe_str pa_nil))))))) .nil)))))
      (pss_one (ps_ret (pe_tup pa_nil)))),
    run_fnM (N := sc__law_error_N) h ((sim_seq (sim_try er (fun _ => (sim_drop (sim_rest (sim_make T.cl_Table (sim_cons sim_var (sim_cons sim_var sim_nil)))))) (.cons (by intro m h; revert m h; decide) (.cons ⟨_, rfl, T.cl_NoSign⟩ .nil) (fun _ _ _ => (sim_ret (sim_if (sim_B sim_callA) (sim_tup (sim_cons sim_c (sim_cons (sim_xf T.cl_NoSign) sim_nil))) (sim_tup (sim_cons sim_c (sim_cons sim_c sim_nil)))))) (.cons (by intro m h; revert m h; decide) (.cons ⟨_, rfl, T.cl_NoFold⟩ .nil) (fun _ _ _ => (sim_ret (sim_if (sim_B sim_callA) (sim_tup (sim_cons sim_c (sim_cons (sim_xf T.cl_NoFold) sim_nil))) (sim_tup (sim_cons sim_c (sim_cons sim_c sim_nil)))))) (.cons (by intro m h; revert m h; decide) (.cons ⟨_, rfl, T.cl_NoMark⟩ .nil) (fun _ _ _ => (sim_ret (sim_if (sim_B sim_callA) (sim_tup (sim_cons sim_c (sim_cons (sim_xf T.cl_NoMark) sim_nil))) (sim_tup (sim_cons sim_c (sim_cons sim_c sim_nil)))))) (.cons (by intro m h; revert m h; decide) (.cons ⟨_, rfl, T.cl_TooMany⟩ .nil) (fun _ _ _ => (sim_ret (sim_if (sim_and (sim_B (sim_xis T.cl_TooMany T.ki_TooMany_OverflowError)) (sim_not (sim_B (sim_xis T.cl_TooMany T.ki_TooMany_ValueError)))) (sim_tup (sim_cons sim_c (sim_cons (sim_xf T.cl_TooMany) sim_nil))) (sim_tup (sim_cons sim_c (sim_cons sim_c sim_nil)))))) .nil)))))
      (sim_ret (sim_tup sim_nil))))⟩
theorem ok__law_bent {f f0 : Addr} {fd d0 : FuncData} {k : Nat} (F : Fun K "_law_bent" "_law_bent" s__law_bent f fd) (T : Txt K mg A)
    (C__law_take : Cal P w K mg base (L2.CX P w) k "_law_take" ["_law_bag_here", "_law_many"] (spM (Gam K A) m__law_take_d4ae) f0 d0)
    : FnOk P w K mg base (L2.CX P w) (k + 1) f fd ["_law_bag_here", "_law_folds", "_law_marks"] (spM (Gam K A) q__law_bent) := by
  refine FnOk.gc (F.okX sc__law_bent (fun vs H Q E h => spM_len h) fun cdv A' outer s H vs Q E hr h => ?_)
  have hr1 := hr
  have hu := hu_of hr
  have hu65 := hu65_of hr
  exact ⟨_, (pss_cons (ps_set (i := 3) sc__law_bent.nd rfl (Or.inl rfl) (pe_callSD C__law_take.ok hr1 (by rfl) C__law_take.mg C__law_take.kp C__law_take.b .nil (fun σ => passAt (takes_of rfl rfl rfl rfl) σ) (pa_cons (pv 0) (pa_cons pe_int pa_nil))))
      (pss_cons (ps_set (i := 4) sc__law_bent.nd rfl (Or.inl rfl) (pe_ix (ixA (K := K) rfl hu) (pe_lstS (pa_cons pe_str (pa_cons pe_str (pa_cons pe_str (pa_cons pe_str (pa_cons pe_str (pa_cons pe_str (pa_cons pe_str (pa_cons pe_str (pa_cons pe_str (pa_cons pe_str (pa_cons pe_str (pa_cons pe_str pa_nil))))))))))))) (pe_callSD C__law_take.ok hr1 (by rfl) C__law_take.mg C__law_take.kp C__law_take.b .nil (fun σ => passAt (takes_of rfl rfl rfl rfl) σ) (pa_cons (pv 0) (pa_cons pe_int pa_nil))) (fun _ _ => rfl)))
      (pss_one (ps_if (pt_cmpR opLt (pv 3) pe_int (nomark _)) (pss_cons (ps_set (i := 5) sc__law_bent.nd rfl (Or.inl rfl) (pe_lstS (pa_cons pe_str (pa_cons pe_str (pa_cons pe_str (pa_cons pe_str (pa_cons pe_non (pa_cons pe_int (pa_cons (pe_lstS (pa_cons pe_str pa_nil)) (pa_cons (pe_tup (pa_cons pe_str pa_nil)) (pa_cons pe_str (pa_cons pe_str (pa_cons pe_str (pa_cons pe_str (pa_cons pe_str (pa_cons pe_bl pa_nil))))))))))))))))
      (pss_one (ps_or (ps_dput hu (pv 1) (pv 4) (pe_ix (ixA (K := K) rfl hu) (pv 5) (pe_callSD C__law_take.ok hr1 (by rfl) C__law_take.mg C__law_take.kp C__law_take.b .nil (fun σ => passAt (takes_of rfl rfl rfl rfl) σ) (pa_cons (pv 0) (pa_cons pe_int pa_nil))) (fun _ _ => rfl)) rfl) (ps_asg (pe_ix (ixA (K := K) rfl hu) (pv 5) (pe_callSD C__law_take.ok hr1 (by rfl) C__law_take.mg C__law_take.kp C__law_take.b .nil (fun σ => passAt (takes_of rfl rfl rfl rfl) σ) (pa_cons (pv 0) (pa_cons pe_int pa_nil))) (fun _ _ => rfl)) (pg_sub (pv 1) (pv 4) set_list))))) (pss_one (ps_or (ps_dput hu (pv 2) (pv 4) (pe_ix (ixA (K := K) rfl hu) (pe_lstS (pa_cons pe_int (pa_cons pe_int (pa_cons pe_bl (pa_cons pe_str (pa_cons pe_non (pa_cons pe_int (pa_cons pe_int (pa_cons pe_int (pa_cons (pe_lstS (pa_cons pe_int pa_nil)) (pa_cons (pe_tup (pa_cons pe_int pa_nil)) (pa_cons (pe_un un_neg pe_int) (pa_cons (pe_op op_pow pe_int pe_int) pa_nil))))))))))))) (pe_callSD C__law_take.ok hr1 (by rfl) C__law_take.mg C__law_take.kp C__law_take.b .nil (fun σ => passAt (takes_of rfl rfl rfl rfl) σ) (pa_cons (pv 0) (pa_cons pe_int pa_nil))) (fun _ _ => rfl)) rfl) (ps_asg (pe_ix (ixA (K := K) rfl hu) (pe_lstS (pa_cons pe_int (pa_cons pe_int (pa_cons pe_bl (pa_cons pe_str (pa_cons pe_non (pa_cons pe_int (pa_cons pe_int (pa_cons pe_int (pa_cons (pe_lstS (pa_cons pe_int pa_nil)) (pa_cons (pe_tup (pa_cons pe_int pa_nil)) (pa_cons (pe_un un_neg pe_int) (pa_cons (pe_op op_pow pe_int pe_int) pa_nil))))))))))))) (pe_callSD C__law_take.ok hr1 (by rfl) C__law_take.mg C__law_take.kp C__law_take.b .nil (fun σ => passAt (takes_of rfl rfl rfl rfl) σ) (pa_cons (pv 0) (pa_cons pe_int pa_nil))) (fun _ _ => rfl)) (pg_sub (pv 2) (pv 4) set_list)))))))),
    run_fnM (N := sc__law_bent_N) h ((sim_seq (sim_asg (sim_call (sim_cons sim_var (sim_cons sim_c sim_nil))) sim_gName)
      (sim_seq (sim_asg (sim_op (sim_lst (sim_cons sim_c (sim_cons sim_c (sim_cons sim_c (sim_cons sim_c (sim_cons sim_c (sim_cons sim_c (sim_cons sim_c (sim_cons sim_c (sim_cons sim_c (sim_cons sim_c (sim_cons sim_c (sim_cons sim_c sim_nil))))))))))))) (sim_call (sim_cons sim_var (sim_cons sim_c sim_nil))) simr_ix) sim_gName)
      (sim_ifS (sim_test (sim_op sim_var sim_c simr_lt)) (sim_seq (sim_asg (sim_lst (sim_cons sim_c (sim_cons sim_c (sim_cons sim_c (sim_cons sim_c (sim_cons sim_c (sim_cons sim_c (sim_cons (sim_lst (sim_cons sim_c sim_nil)) (sim_cons (sim_tup (sim_cons sim_c sim_nil)) (sim_cons sim_c (sim_cons sim_c (sim_cons sim_c (sim_cons sim_c (sim_cons sim_c (sim_cons sim_c sim_nil))))))))))))))) sim_gName)
      (sim_setI (sim_op sim_var (sim_call (sim_cons sim_var (sim_cons sim_c sim_nil))) simr_ix) sim_var sim_var)) (sim_setI (sim_op (sim_lst (sim_cons sim_c (sim_cons sim_c (sim_cons sim_c (sim_cons sim_c (sim_cons sim_c (sim_cons sim_c (sim_cons sim_c (sim_cons sim_c (sim_cons (sim_lst (sim_cons sim_c sim_nil)) (sim_cons (sim_tup (sim_cons sim_c sim_nil)) (sim_cons (sim_un sim_c simu_neg) (sim_cons (sim_op sim_c sim_c (simr_I cPow_ok)) sim_nil))))))))))))) (sim_call (sim_cons sim_var (sim_cons sim_c sim_nil))) simr_ix) sim_var sim_var)))))⟩
theorem ok__law_is_sign {f : Addr} {fd : FuncData} {k : Nat} (F : Fun K "_law_is_sign" "_law_is_sign" s__law_is_sign f fd) (T : Txt K mg A)
    : FnOk P w K mg base (L2.CX P w) (k + 1) f fd ["_law_thing"] (spM (Gam K A) q__law_is_sign) := by
  refine FnOk.gc (F.okX sc__law_is_sign (fun vs H Q E h => spM_len h) fun cdv A' outer s H vs Q E hr h => ?_)
  have hr1 := hr
  have hu := hu_of hr
  have hu65 := hu65_of hr
  exact ⟨_, (pss_one (ps_ret (pe_and (pe_callB (cIsi (K := K) rfl) (by rfl) T.b_isinstance (by decide +kernel) (pa_cons (pv 0) (pa_cons (pe_bltn (v := .ty "str") (by rfl) T.b_str (by decide +kernel) rfl) pa_nil))) (pe_and (pe_cmpR (opEq (K := K) rfl hr.units) (pe_callB (callLen (K := K) rfl) (by rfl) T.b_len PySem.boot_len (pa_cons (pv 0) pa_nil)) pe_int (nomark _)) (pe_one (pe_or (pe_bm0 PySem.F.plainAttrs_str PySem.F.slot_str_isalnum PySem.F.type_str_isalnum mt_isalnum (pv 0)) (pe_one (pe_cmpR (opIn (K := K) rfl hu65) (pv 0) pe_str (by rfl))))))))),
    run_fnM (N := sc__law_is_sign_N) h ((sim_ret (sim_andV (sim_cb (sim_cons sim_var (sim_cons sim_c sim_nil)) simc_isi) (sim_andV (sim_op (sim_cb (sim_cons sim_var sim_nil) simc_len) sim_c simr_eq) (sim_orV (sim_aln sim_var) (sim_op sim_var sim_c simr_in))))))⟩
end
end Nm
set_option Elab.async false
set_option linter.all false
set_option maxRecDepth 100000
set_option maxHeartbeats 4000000
namespace Nm
open PySem PySem.Spec PyProof.Rows L2 Evl
section
variable {P : Program} {w : World} {K : Fg} {mg : Str → Option Value} {base : Heap} {A : Ad}
theorem ok__law_due {f f0 : Addr} {fd d0 : FuncData} {k : Nat} (F : Fun K "_law_due" "_law_due" s__law_due f fd) (T : Txt K mg A)
    (C__law_is_sign : Cal P w K mg base (L2.CX P w) k "_law_is_sign" ["_law_thing"] (spM (Gam K A) q__law_is_sign) f0 d0)
    : FnOk P w K mg base (L2.CX P w) (k + 1) f fd ["_law_folds", "_law_marks"] (spM (Gam K A) q__law_due) := by
  refine FnOk.gc (F.okX sc__law_due (fun vs H Q E h => spM_len h) fun cdv A' outer s H vs Q E hr h => ?_)
  have hr1 := hr
  have hu := hu_of hr
  have hu65 := hu65_of hr
  exact ⟨_, (pss_cons (ps_lockO (ps_for (passes_of rfl) rfl (pi_any (K := K) rfl (pe_callB (callSorted (K := K) rfl rfl) (by rfl) T.b_sorted (by decide +kernel) (pa_cons (pv 0) pa_nil))) (pg_name (i := 2) sc__law_due.nd rfl (Or.inl rfl)) (pss_cons (ps_set (i := 3) sc__law_due.nd rfl (Or.inl rfl) (pe_ix (ixA (K := K) rfl hu) (pv 0) (pv 2) (fun _ _ => rfl)))
      (pss_cons (ps_if (pt_not (pt_val (pe_callSD C__law_is_sign.ok hr1 (by rfl) C__law_is_sign.mg C__law_is_sign.kp C__law_is_sign.b .nil (fun σ => passAt (takes_of rfl rfl rfl rfl) σ) (pa_cons (pv 2) pa_nil)))) (pss_one (ps_ret (pe_tup (pa_cons pe_str (pa_cons (pv 2) pa_nil))))) pss_nil)
      (pss_cons (ps_if (PW.pt (pw_or (pt_not (pt_val (pe_callB (cIsi (K := K) rfl) (by rfl) T.b_isinstance (by decide +kernel) (pa_cons (pv 3) (pa_cons (pe_bltn (v := .ty "str") (by rfl) T.b_str (by decide +kernel) rfl) pa_nil))))) (pw_or (pt_not (pt_chain (opLe (K := K) rfl hr.units0) (opLe (K := K) rfl hr.units0) pe_int (pe_callB (callLen (K := K) rfl) (by rfl) T.b_len PySem.boot_len (pa_cons (pv 3) pa_nil)) pe_int)) (pw_or1 (pt_not (pt_val (pe_callB (cAll (K := K) rfl rfl) (by rfl) T.b_all (by decide +kernel) (pa_cons (pe_lockO (pe_lc (own := [("_law_one", 4)]) (g := (gName 4)) (tt := tYes) rfl sc__law_due.nd (pi_any (K := K) rfl (pv 3)) (blkOk_by (own := [("_law_one", 4)]) (N := sc__law_due_N) (sc := defScope s__law_due) (by decide +kernel)) (fun _ _ _ _ _ => (pg_name (i := 4) sc__law_due.nd rfl (Or.inl rfl))) (fun _ _ _ _ _ => pts_nil) (fun _ _ _ _ _ => (pe_callSD C__law_is_sign.ok hr1 (by rfl) C__law_is_sign.mg C__law_is_sign.kp C__law_is_sign.b .nil (fun σ => passAt takes0 σ) (pa_cons (pv 4) pa_nil))))) pa_nil)))))))) (pss_one (ps_ret (pe_tup (pa_cons pe_str (pa_cons (pv 2) pa_nil))))) pss_nil)
      (pss_one (ps_if (pt_cmpR (opNe (K := K) rfl hr.units) (pe_lockO (pe_lc (own := [("_law_one", 4)]) (g := (gName 4))  rfl sc__law_due.nd (pi_any (K := K) rfl (pv 3)) (blkOk_by (own := [("_law_one", 4)]) (N := sc__law_due_N) (sc := defScope s__law_due) (by decide +kernel)) (fun _ _ _ _ _ => (pg_name (i := 4) sc__law_due.nd rfl (Or.inl rfl))) (fun _ _ _ _ _ => (pts_one (pt_cmpR (opIn (K := K) rfl hu65) (pv 4) (pv 0) (by rfl)))) (fun _ _ _ _ _ => (pv 4)))) (pe_lstS pa_nil) (nomark _)) (pss_one (ps_ret (pe_tup (pa_cons pe_str (pa_cons (pv 2) pa_nil))))) pss_nil)))))))
      (pss_cons (ps_lockO (ps_for (passes_of rfl) rfl (pi_any (K := K) rfl (pe_callB (callSorted (K := K) rfl rfl) (by rfl) T.b_sorted (by decide +kernel) (pa_cons (pv 1) pa_nil))) (pg_name (i := 2) sc__law_due.nd rfl (Or.inl rfl)) (pss_cons (ps_if (pt_not (pt_val (pe_callSD C__law_is_sign.ok hr1 (by rfl) C__law_is_sign.mg C__law_is_sign.kp C__law_is_sign.b .nil (fun σ => passAt (takes_of rfl rfl rfl rfl) σ) (pa_cons (pv 2) pa_nil)))) (pss_one (ps_ret (pe_tup (pa_cons pe_str (pa_cons (pv 2) pa_nil))))) pss_nil)
      (pss_one (ps_if (PW.pt (pw_or (pt_val (pe_callB (cIsi (K := K) rfl) (by rfl) T.b_isinstance (by decide +kernel) (pa_cons (pe_ix (ixA (K := K) rfl hu) (pv 1) (pv 2) (fun _ _ => rfl)) (pa_cons (pe_bltn (v := .ty "bool") (by rfl) T.b_bool (by decide +kernel) rfl) pa_nil)))) (pw_or (pt_cmpR (opNinT (K := K) rfl hu65) (pe_ix (ixA (K := K) rfl hu) (pv 1) (pv 2) (fun _ _ => rfl)) (pe_tup (pa_cons pe_int (pa_cons pe_int (pa_cons pe_int pa_nil)))) (by rfl)) (pw_or1 (pt_cmpR (opIn (K := K) rfl hu65) (pv 2) (pv 0) (by rfl)))))) (pss_one (ps_ret (pe_tup (pa_cons pe_str (pa_cons (pv 2) pa_nil))))) pss_nil)))))
      (pss_cons (ps_if (pt_cmpR opGt (pe_callB (callLen (K := K) rfl) (by rfl) T.b_len PySem.boot_len (pa_cons (pv 0) pa_nil)) pe_int (nomark _)) (pss_one (ps_ret (pe_tup (pa_cons pe_str (pa_cons pe_int pa_nil))))) pss_nil)
      (pss_one (ps_ret (pe_ifExp (pt_cmpR opGt (pe_callB (callLen (K := K) rfl) (by rfl) T.b_len PySem.boot_len (pa_cons (pv 1) pa_nil)) pe_int (nomark _)) (pe_tup (pa_cons pe_str (pa_cons pe_int pa_nil))) (pe_tup pa_nil))))))),
    run_fnM (N := sc__law_due_N) h ((sim_seq (sim_forE (sim_cb (sim_cons sim_var sim_nil) simc_sorted) sim_gName (sim_seq (sim_asg (sim_op sim_var sim_var simr_ix) sim_gName)
      (sim_seq (sim_ifS (sim_not (sim_B (sim_call (sim_cons sim_var sim_nil)))) (sim_ret (sim_tup (sim_cons sim_c (sim_cons sim_var sim_nil)))) sim_next)
      (sim_seq (sim_ifS (sim_or (sim_not (sim_B (sim_cb (sim_cons sim_var (sim_cons sim_c sim_nil)) simc_isi))) (sim_or (sim_not (sim_test (sim_chain sim_c (sim_cb (sim_cons sim_var sim_nil) simc_len) sim_c simr_le simr_le))) (sim_not (sim_B (sim_cb (sim_cons (sim_lcA sim_gName sim_yes (sim_call (sim_cons sim_var sim_nil)) (ow_name (by decide))) sim_nil) simc_all))))) (sim_ret (sim_tup (sim_cons sim_c (sim_cons sim_var sim_nil)))) sim_next)
      (sim_ifS (sim_test (sim_op (sim_lcA sim_gName (sim_test (sim_op sim_var sim_var simr_in)) sim_var (ow_name (by decide))) (sim_lst sim_nil) simr_ne)) (sim_ret (sim_tup (sim_cons sim_c (sim_cons sim_var sim_nil)))) sim_next)))))
      (sim_seq (sim_forE (sim_cb (sim_cons sim_var sim_nil) simc_sorted) sim_gName (sim_seq (sim_ifS (sim_not (sim_B (sim_call (sim_cons sim_var sim_nil)))) (sim_ret (sim_tup (sim_cons sim_c (sim_cons sim_var sim_nil)))) sim_next)
      (sim_ifS (sim_or (sim_B (sim_cb (sim_cons (sim_op sim_var sim_var simr_ix) (sim_cons sim_c sim_nil)) simc_isi)) (sim_or (sim_test (sim_op (sim_op sim_var sim_var simr_ix) (sim_tup (sim_cons sim_c (sim_cons sim_c (sim_cons sim_c sim_nil)))) simr_ninA)) (sim_test (sim_op sim_var sim_var simr_in)))) (sim_ret (sim_tup (sim_cons sim_c (sim_cons sim_var sim_nil)))) sim_next)))
      (sim_seq (sim_ifS (sim_test (sim_op (sim_cb (sim_cons sim_var sim_nil) simc_len) sim_c simr_gt)) (sim_ret (sim_tup (sim_cons sim_c (sim_cons sim_c sim_nil)))) sim_next)
      (sim_ret (sim_if (sim_test (sim_op (sim_cb (sim_cons sim_var sim_nil) simc_len) sim_c simr_gt)) (sim_tup (sim_cons sim_c (sim_cons sim_c sim_nil))) (sim_tup sim_nil)))))))⟩
theorem ok__law_turned {f f0 : Addr} {fd d0 : FuncData} {k : Nat} (F : Fun K "_law_turned" "_law_turned" s__law_turned f fd) (T : Txt K mg A)
    (C__law_take : Cal P w K mg base (L2.CX P w) k "_law_take" ["_law_bag_here", "_law_many"] (spM (Gam K A) m__law_take_d4ae) f0 d0)
    : FnOk P w K mg base (L2.CX P w) (k + 1) f fd ["_law_bag_here", "_law_rows"] (spM (Gam K A) q__law_turned) := by
  refine FnOk.gc (F.okX sc__law_turned (fun vs H Q E h => spM_len h) fun cdv A' outer s H vs Q E hr h => ?_)
  have hr1 := hr
  have hu := hu_of hr
  have hu65 := hu65_of hr
  exact ⟨_, (pss_cons (ps_par (i := 2) (j := 3) (by rfl) sc__law_turned.nd rfl rfl (by decide) rfl rfl (pa_cons (pe_callTy (callList (K := K) rfl rfl) (by rfl) T.b_list (by decide +kernel) (pa_cons (pv 1) pa_nil)) (pa_cons pe_dnewK pa_nil)) (by rfl))
      (pss_cons (ps_while (passes_of rfl) (pt_cmpR (opNe (K := K) rfl hr.units) (pv 2) (pe_lstS pa_nil) (nomark _)) (pss_cons (ps_set (i := 4) sc__law_turned.nd rfl (Or.inl rfl) (pe_bm PySem.F.plainAttrs_list PySem.F.slot_list_pop PySem.F.type_list_pop mt_popAt (pv 2) (pa_cons (pe_callSD C__law_take.ok hr1 (by rfl) C__law_take.mg C__law_take.kp C__law_take.b .nil (fun σ => passAt (takes_of rfl rfl rfl rfl) σ) (pa_cons (pv 0) (pa_cons (pe_callB (callLen (K := K) rfl) (by rfl) T.b_len PySem.boot_len (pa_cons (pv 2) pa_nil)) pa_nil))) pa_nil)))
      (pss_one (ps_or (ps_dput hu (pv 3) (pv 4) (pe_ix (ixA (K := K) rfl hu) (pv 1) (pv 4) (fun _ _ => rfl)) rfl) (ps_asg (pe_ix (ixA (K := K) rfl hu) (pv 1) (pv 4) (fun _ _ => rfl)) (pg_sub (pv 3) (pv 4) set_list))))))
      (pss_one (ps_ret (pv 3))))),
    run_fnM (N := sc__law_turned_N) h ((sim_seq (sim_par (sim_cons (sim_cb (sim_cons sim_var sim_nil) simc_listC) (sim_cons sim_dnewC sim_nil)))
      (sim_seq (sim_while (sim_test (sim_op sim_var (sim_lst sim_nil) simr_ne)) (sim_seq (sim_asg (sim_popAt sim_var (sim_cons (sim_call (sim_cons sim_var (sim_cons (sim_cb (sim_cons sim_var sim_nil) simc_len) sim_nil))) sim_nil)) sim_gName)
      (sim_setI (sim_op sim_var sim_var simr_ix) sim_var sim_var)))
      (sim_ret (sim_rest sim_var)))))⟩
end
end Nm
set_option Elab.async false
set_option linter.all false
set_option maxRecDepth 100000
set_option maxHeartbeats 4000000
namespace Nm
open PySem PySem.Spec PyProof.Rows L2 Evl
section
variable {P : Program} {w : World} {K : Fg} {mg : Str → Option Value} {base : Heap} {A : Ad}
theorem ok_law {f f0 f1 f2 f3 f4 f5 f6 : Addr} {fd d0 d1 d2 d3 d4 d5 d6 : FuncData} {k : Nat} (F : Fun K "law" "law" s_law f fd) (T : Txt K mg A) (SM : SysM base)
    (C__law_bag : Cal P w K mg base (L2.CX P w) k "_law_bag" ["_law_script", "_law_at"] (spM (Gam K A) m__law_bag_4c78) f0 d0)
    (C__law_rule : Cal P w K mg base (L2.CX P w) k "_law_rule" ["_law_bag_here"] (spM (Gam K A) q__law_rule) f1 d1)
    (C__law_take : Cal P w K mg base (L2.CX P w) k "_law_take" ["_law_bag_here", "_law_many"] (spM (Gam K A) m__law_take_d4ae) f2 d2)
    (C__law_bent : Cal P w K mg base (L2.CX P w) k "_law_bent" ["_law_bag_here", "_law_folds", "_law_marks"] (spM (Gam K A) q__law_bent) f3 d3)
    (C__law_due : Cal P w K mg base (L2.CX P w) k "_law_due" ["_law_folds", "_law_marks"] (spM (Gam K A) q__law_due) f4 d4)
    (C__law_error : Cal P w K mg base (L2.CX P w) k "_law_error" ["_law_folds", "_law_marks"] (spM (Gam K A) q__law_error) f5 d5)
    (C__law_turned : Cal P w K mg base (L2.CX P w) k "_law_turned" ["_law_bag_here", "_law_rows"] (spM (Gam K A) q__law_turned) f6 d6)
    : FnG P w K mg base CX0 (k + 1) f fd ["_law_script"] (spM (Gam K A) q_law) := by
  refine FnG.gc (okG F sc_law (fun vs H Q E h => spM_lenR h) fun cdv A' outer s H vs Q E hG hr h => ?_)
  have hr1 := hr
  have hu := hu_of hr
  have hu65 := hu65_of hr
  exact ⟨_, (pss_cons (ps_for PassesOwn.never rfl (pi_range1 (by rfl) T.b_range (pa_cons (pe_callB (call_max2 rfl) (by rfl) T.b_max (by decide +kernel) (pa_cons pe_int (pa_cons (pe_callB (call_min2 rfl) (by rfl) T.b_min (by decide +kernel) (pa_cons pe_int (pa_cons (pe_callB (callLen (K := K) rfl) (by rfl) T.b_len PySem.boot_len (pa_cons (pv 0) pa_nil)) pa_nil))) pa_nil))) pa_nil)) (pg_name (i := 1) sc_law.nd rfl (Or.inl rfl)) (pss_cons (ps_set (i := 2) sc_law.nd rfl (Or.inl rfl) (pe_callSD C__law_bag.ok hr1 (by rfl) C__law_bag.mg C__law_bag.kp C__law_bag.b .nil (fun σ => passAt takes0 σ) (pa_cons (pv 0) (pa_cons (pv 1) pa_nil))))
      (pss_one (ps_for PassesOwn.never rfl (pi_range1 (by rfl) T.b_range (pa_cons pe_int pa_nil)) (pg_name (i := 3) sc_law.nd rfl (Or.inl rfl)) (pss_cons (ps_asg (pe_callSD C__law_rule.ok hr1 (by rfl) C__law_rule.mg C__law_rule.kp C__law_rule.b .nil (fun σ => passAt takes0 σ) (pa_cons (pv 2) pa_nil)) (pg_tup (by rfl) (pgs_cons (pg_name (i := 4) sc_law.nd rfl (Or.inl rfl)) (pgs_cons (pg_name (i := 5) sc_law.nd rfl (Or.inl rfl)) pgs_nil))))
      (pss_cons (ps_for PassesOwn.never rfl (pi_range1 (by rfl) T.b_range (pa_cons (pe_callSD C__law_take.ok hr1 (by rfl) C__law_take.mg C__law_take.kp C__law_take.b .nil (fun σ => passAt takes0 σ) (pa_cons (pv 2) (pa_cons pe_int pa_nil))) pa_nil)) (pg_name (i := 6) sc_law.nd rfl (Or.inl rfl)) (pss_one (ps_expr (pe_callSD C__law_bent.ok hr1 (by rfl) C__law_bent.mg C__law_bent.kp C__law_bent.b .nil (fun σ => passAt takes0 σ) (pa_cons (pv 2) (pa_cons (pv 4) (pa_cons (pv 5) pa_nil)))))))
      (pss_cons (ps_par (i := 7) (j := 8) (by rfl) sc_law.nd rfl rfl (by decide) rfl rfl (pa_cons (pe_callSD C__law_due.ok hr1 (by rfl) C__law_due.mg C__law_due.kp C__law_due.b .nil (fun σ => passAt takes0 σ) (pa_cons (pv 4) (pa_cons (pv 5) pa_nil))) (pa_cons (pe_callB (call_reprM (K := K) rfl hG hr.units SM) (by rfl) T.b_repr (by decide +kernel) (pa_cons (pe_lstS (pa_cons (pv 4) (pa_cons (pv 5) pa_nil))) pa_nil)) pa_nil)) (by rfl))
      (pss_cons (ps_if (PW.pt (pw_or (pt_cmpR (opNe (K := K) rfl hr.units) (pe_callB (call_reprM (K := K) rfl hG hr.units SM) (by rfl) T.b_repr (by decide +kernel) (pa_cons (pe_callSD C__law_error.ok hr1 (by rfl) C__law_error.mg C__law_error.kp C__law_error.b .nil (fun σ => passAt takes0 σ) (pa_cons (pv 4) (pa_cons (pv 5) pa_nil))) pa_nil)) (pe_callB (call_reprM (K := K) rfl hG hr.units SM) (by rfl) T.b_repr (by decide +kernel) (pa_cons (pv 7) pa_nil)) (nomark _)) (pw_or1 (pt_cmpR (opNe (K := K) rfl hr.units) (pe_callB (call_reprM (K := K) rfl hG hr.units SM) (by rfl) T.b_repr (by decide +kernel) (pa_cons (pe_lstS (pa_cons (pv 4) (pa_cons (pv 5) pa_nil))) pa_nil)) (pv 8) (nomark _))))) (pss_one (ps_ret pe_bl)) pss_nil)
      (pss_one (ps_if (pt_cmpR (opNe (K := K) rfl hr.units) (pe_callB (call_reprM (K := K) rfl hG hr.units SM) (by rfl) T.b_repr (by decide +kernel) (pa_cons (pe_callSD C__law_error.ok hr1 (by rfl) C__law_error.mg C__law_error.kp C__law_error.b .nil (fun σ => passAt takes0 σ) (pa_cons (pe_callSD C__law_turned.ok hr1 (by rfl) C__law_turned.mg C__law_turned.kp C__law_turned.b .nil (fun σ => passAt takes0 σ) (pa_cons (pv 2) (pa_cons (pv 4) pa_nil))) (pa_cons (pe_callSD C__law_turned.ok hr1 (by rfl) C__law_turned.mg C__law_turned.kp C__law_turned.b .nil (fun σ => passAt takes0 σ) (pa_cons (pv 2) (pa_cons (pv 5) pa_nil))) pa_nil))) pa_nil)) (pe_callB (call_reprM (K := K) rfl hG hr.units SM) (by rfl) T.b_repr (by decide +kernel) (pa_cons (pv 7) pa_nil)) (nomark _)) (pss_one (ps_ret pe_bl)) pss_nil))))))))))
      (pss_cons (ps_set (i := 9) sc_law.nd rfl (Or.inl rfl) pe_str)
      (pss_cons (ps_par (i := 4) (j := 5) (by rfl) sc_law.nd rfl rfl (by decide) rfl rfl (pa_cons pe_dnewK (pa_cons pe_dnewK pa_nil)) (by rfl))
      (pss_cons (ps_lockO (ps_for PassesOwn.never rfl (pi_any (K := K) rfl (pe_slice (slA (K := K) rfl) (pv 9) po_none (po_some pe_int))) (pg_name (i := 10) sc_law.nd rfl (Or.inl rfl)) (pss_one (ps_or (ps_dput hu (pv 4) (pv 10) pe_str rfl) (ps_asg pe_str (pg_sub (pv 4) (pv 10) set_list))))))
      (pss_cons (ps_lockO (ps_for PassesOwn.never rfl (pi_any (K := K) rfl pe_str) (pg_name (i := 10) sc_law.nd rfl (Or.inl rfl)) (pss_one (ps_or (ps_dput hu (pv 5) (pv 10) pe_int rfl) (ps_asg pe_int (pg_sub (pv 5) (pv 10) set_list))))))
      (pss_cons (ps_if (PW.pt (pw_or (pt_cmpR (opNe (K := K) rfl hr.units) (pe_callSD C__law_error.ok hr1 (by rfl) C__law_error.mg C__law_error.kp C__law_error.b .nil (fun σ => passAt takes0 σ) (pa_cons (pv 4) (pa_cons (pv 5) pa_nil))) (pe_tup (pa_cons pe_str (pa_cons pe_int pa_nil))) (nomark _)) (pw_or1 (pt_cmpR (opNe (K := K) rfl hr.units) (pe_callSD C__law_error.ok hr1 (by rfl) C__law_error.mg C__law_error.kp C__law_error.b .nil (fun σ => passAt takes0 σ) (pa_cons pe_dnewK (pa_cons (pv 5) pa_nil))) (pe_tup (pa_cons pe_str (pa_cons pe_int pa_nil))) (nomark _))))) (pss_one (ps_ret pe_bl)) pss_nil)
      (pss_cons (ps_expr (pe_dpop1 (pv 4) pe_str ⟨rfl, rfl, rfl, rfl⟩))
      (pss_cons (ps_if (PW.pt (pw_or (pt_cmpR (opNe (K := K) rfl hr.units) (pe_callSD C__law_error.ok hr1 (by rfl) C__law_error.mg C__law_error.kp C__law_error.b .nil (fun σ => passAt takes0 σ) (pa_cons (pv 4) (pa_cons (pv 5) pa_nil))) (pe_tup (pa_cons pe_str (pa_cons pe_int pa_nil))) (nomark _)) (pw_or1 (pt_cmpR (opNe (K := K) rfl hr.units) (pe_callSD C__law_error.ok hr1 (by rfl) C__law_error.mg C__law_error.kp C__law_error.b .nil (fun σ => passAt takes0 σ) (pa_cons (pv 4) (pa_cons (pe_disp (pps_cons pe_str pe_int pps_nil) (by decide +kernel) (by rfl) (by simp) (by decide)) pa_nil))) (pe_tup (pa_cons pe_str (pa_cons pe_str pa_nil))) (nomark _))))) (pss_one (ps_ret pe_bl)) pss_nil)
      (pss_cons (ps_expr (pe_dpop1 (pv 5) pe_str ⟨rfl, rfl, rfl, rfl⟩))
      (pss_one (ps_ret (pe_and (pe_cmpR (opEq (K := K) rfl hr.units) (pe_callSD C__law_error.ok hr1 (by rfl) C__law_error.mg C__law_error.kp C__law_error.b .nil (fun σ => passAt takes0 σ) (pa_cons (pv 4) (pa_cons (pv 5) pa_nil))) (pe_tup pa_nil) (nomark _)) (pe_one (pe_cmpR (opEq (K := K) rfl hr.units) (pe_callSD C__law_error.ok hr1 (by rfl) C__law_error.mg C__law_error.kp C__law_error.b .nil (fun σ => passAt takes0 σ) (pa_cons pe_dnewK (pa_cons pe_dnewK pa_nil))) (pe_tup pa_nil) (nomark _))))))))))))))),
    run_fnR (N := sc_law_N) h ((sim_seq (sim_for (simi_rng1 (sim_cons (sim_cb (sim_cons sim_c (sim_cons (sim_cb (sim_cons sim_c (sim_cons (sim_cb (sim_cons sim_var sim_nil) simc_len) sim_nil)) simc_2I) sim_nil)) simc_2I) sim_nil)) sim_gName (sim_seq (sim_asg (sim_call (sim_cons sim_var (sim_cons sim_var sim_nil))) sim_gName)
      (sim_for (simi_rng1 (sim_cons sim_c sim_nil)) sim_gName (sim_seq (sim_asg (sim_call (sim_cons sim_var sim_nil)) (sim_gTup (sim_gCons sim_gName (sim_gCons sim_gName sim_gNil))))
      (sim_seq (sim_for (simi_rng1 (sim_cons (sim_call (sim_cons sim_var (sim_cons sim_c sim_nil))) sim_nil)) sim_gName (sim_drop (sim_call (sim_cons sim_var (sim_cons sim_var (sim_cons sim_var sim_nil))))))
      (sim_seq (sim_frz (i := 5) (sim_frz (i := 4) (sim_par (sim_cons (sim_call (sim_cons sim_var (sim_cons sim_var sim_nil))) (sim_cons (sim_cb (sim_cons (sim_lst (sim_cons sim_var (sim_cons sim_var sim_nil))) sim_nil) simc_reprX) sim_nil)))))
      (sim_seq (sim_ifS (sim_or (sim_test (sim_op (sim_cb (sim_cons (sim_call (sim_cons sim_var (sim_cons sim_var sim_nil))) sim_nil) simc_reprX) (sim_cb (sim_cons sim_var sim_nil) simc_reprX) simr_ne)) (sim_test (sim_op (sim_cb (sim_cons (sim_lst (sim_cons sim_var (sim_cons sim_var sim_nil))) sim_nil) simc_reprX) sim_var simr_ne))) (sim_ret sim_c) sim_next)
      (sim_ifS (sim_test (sim_op (sim_cb (sim_cons (sim_call (sim_cons (sim_call (sim_cons sim_var (sim_cons sim_var sim_nil))) (sim_cons (sim_call (sim_cons sim_var (sim_cons sim_var sim_nil))) sim_nil))) sim_nil) simc_reprX) (sim_cb (sim_cons sim_var sim_nil) simc_reprX) simr_ne)) (sim_ret sim_c) sim_next))))))))
      (sim_seq (sim_asg sim_c sim_gName)
      (sim_seq (sim_par (sim_cons sim_dnewC (sim_cons sim_dnewC sim_nil)))
      (sim_seq (sim_forE (sim_sl sim_var sim_noPart (sim_part sim_c) sims_sl) sim_gName (sim_setI sim_c sim_var sim_var))
      (sim_seq (sim_forE sim_c sim_gName (sim_setI sim_c sim_var sim_var))
      (sim_seq (sim_ifS (sim_or (sim_test (sim_op (sim_call (sim_cons sim_var (sim_cons sim_var sim_nil))) (sim_tup (sim_cons sim_c (sim_cons sim_c sim_nil))) simr_ne)) (sim_test (sim_op (sim_call (sim_cons sim_dnew (sim_cons sim_var sim_nil))) (sim_tup (sim_cons sim_c (sim_cons sim_c sim_nil))) simr_ne))) (sim_ret sim_c) sim_next)
      (sim_seq (sim_drop (sim_dpop1 sim_var sim_c))
      (sim_seq (sim_ifS (sim_or (sim_test (sim_op (sim_call (sim_cons sim_var (sim_cons sim_var sim_nil))) (sim_tup (sim_cons sim_c (sim_cons sim_c sim_nil))) simr_ne)) (sim_test (sim_op (sim_call (sim_cons sim_var (sim_cons (sim_disp (.cons sim_c sim_c .nil)) sim_nil))) (sim_tup (sim_cons sim_c (sim_cons sim_c sim_nil))) simr_ne))) (sim_ret sim_c) sim_next)
      (sim_seq (sim_drop (sim_dpop1 sim_var sim_c))
      (sim_ret (sim_andV (sim_op (sim_call (sim_cons sim_var (sim_cons sim_var sim_nil))) (sim_tup sim_nil) simr_eq) (sim_op (sim_call (sim_cons sim_dnew (sim_cons sim_dnew sim_nil))) (sim_tup sim_nil) simr_eq)))))))))))))⟩
end
end Nm
set_option Elab.async false
set_option linter.all false
set_option maxRecDepth 100000
set_option maxHeartbeats 4000000
namespace Nm
open PySem PySem.Spec PyProof.Rows L2 Evl
def isVd : D → Bool
  | .v _ => true
  | _ => false
def flatC : Cell → Bool
  | .lst ds => ds.all isVd
  | .free => true
  | _ => false
def FlS (st : GS) : Prop := ∀ c ∈ st, flatC c = true
theorem bdDs_flat {n : Nat} : ∀ {ds : List D}, ds.all isVd = true → bdDs n ds = true
  | [], _ => rfl
  | .v _ :: r, h => by
    show (true && bdDs n r) = true
    rw [bdDs_flat (ds := r) (by simp only [List.all_cons, isVd, Bool.true_and] at h; exact h)]
    rfl
  | .lst _ :: _, h => by simp [isVd] at h
  | .lsk _ :: _, h => by simp [isVd] at h
  | .tup _ :: _, h => by simp [isVd] at h
  | .tpk _ :: _, h => by simp [isVd] at h
  | .dic _ :: _, h => by simp [isVd] at h
  | .dit _ :: _, h => by simp [isVd] at h
  | .obj _ :: _, h => by simp [isVd] at h
  | .ins _ _ :: _, h => by simp [isVd] at h
  | .cls _ :: _, h => by simp [isVd] at h
  | .exn _ _ :: _, h => by simp [isVd] at h
theorem FlS.bd {st : GS} (h : FlS st) (n : Nat) : bdS n st = true := by
  unfold bdS
  rw [List.all_eq_true]
  intro c hc
  have := h c hc
  match c, this with
  | .lst ds, e => exact bdDs_flat e
  | .free, _ => rfl
theorem FlS.take {st : GS} (h : FlS st) (n : Nat) : FlS (st.take n) := fun c hc => h c (List.mem_of_mem_take hc)
theorem FlS.set {st : GS} (h : FlS st) {b : Nat} {c : Cell} (hc : flatC c = true) : FlS (st.set b c) := fun x hx => (List.mem_or_eq_of_mem_set hx).elim (h x) fun e => e ▸ hc
theorem FlS.app {st : GS} (h : FlS st) {c : Cell} (hc : flatC c = true) : FlS (st ++ [c]) := fun x hx => (List.mem_append.mp hx).elim (h x) fun e => by rw [List.mem_singleton.mp e]; exact hc
/-- every object stands -/
def Wf (s : GS) : Prop := bdS s.length s = true
theorem Wf.set {s : GS} (w : Wf s) {n : Nat} {c : Cell} (hc : bdC s.length c = true) : Wf (s.set n c) := by
  unfold Wf bdS at *
  rw [List.length_set]
  rw [List.all_eq_true] at *
  exact fun x hx => (List.mem_or_eq_of_mem_set hx).elim (w x) fun e => e ▸ hc
theorem flat_bd {n : Nat} {c : Cell} (h : flatC c = true) : bdC n c = true := by
  match c, h with
  | .lst ds, e => exact bdDs_flat e
  | .free, _ => rfl
theorem FlS.wf {s : GS} (h : FlS s) : Wf s := h.bd _
theorem gc_wf {m : MF} {ds : List D} {st st' tl : GS} {d : D} (e : m ds st = some (.ok d (st' ++ tl))) (hl : st'.length = st.length) (wf : Wf st') (bd : bdD st.length d = true) : gcM m ds st = some (.ok d st') := by
  have t : (st' ++ tl).take st.length = st' := by rw [← hl]; exact List.take_left
  unfold gcM
  rw [e]
  show (if (bdD st.length d && bdS st.length ((st' ++ tl).take st.length)) = true then some (Re.ok d ((st' ++ tl).take st.length)) else _) = _
  rw [t, bd, ← hl, show bdS st'.length st' = true from wf]
  rfl
theorem gc_nil {m : MF} {ds : List D} {st st' : GS} {d : D} (e : m ds st = some (.ok d st')) (hl : st'.length = st.length) : gcM m ds st = some (.ok d st') := by
  have t : st'.take st.length = st' := by rw [← hl]; exact List.take_length
  unfold gcM
  rw [e]
  show (if (bdD st.length d && bdS st.length (st'.take st.length)) = true then some (Re.ok d (st'.take st.length)) else some (Re.ok d st')) = _
  rw [t]
  split <;> rfl
def bagC (x y z : Int) : Cell := .lst [.v (.int x), .v (.int y), .v (.int z)]
def Bag (st : GS) (b : Nat) (k : Int) : Prop := ∃ x y z, st[b]? = some (bagC x y z) ∧ 0 ≤ x ∧ 0 ≤ y ∧ y < 2305843009213693951 ∧ 0 ≤ z ∧ z ≤ k
theorem fnM_eq {n N : Nat} {b : MS} {ds : List D} {st s : GS} {d : D} (hl : ds.length = n) (e : b (ds.map some ++ List.replicate (N - n) none) st = some (.rt d s)) : mFn n N b ds st = some (.ok d s) := by
  unfold mFn
  rw [if_pos hl, e]
theorem take_raw {st : GS} {b : Nat} {x y z n : Int} (hb : st[b]? = some (bagC x y z)) (hn : 0 < n) (hn2 : n < 1000000) (hx : 0 ≤ x) (hy : 0 ≤ y) (hy2 : y < 2305843009213693951) (hz : 0 ≤ z) (hz2 : z ≤ 1000000000) :
    ∃ r x' z', mFn 2 4 bm__law_take_d4ae [.obj b, .v (.int n)] st = some (.ok (.v (.int r)) (st.set b (bagC x' y z'))) ∧ 0 ≤ r ∧ r < n ∧ 0 ≤ x' ∧ 0 ≤ z' ∧ z' ≤ z + 1 := by
  have hb' : st[b]? = some (Cell.lst [.v (.int x), .v (.int y), .v (.int z)]) := hb
  have hl : b < st.length := (List.getElem?_eq_some_iff.mp hb).1
  have hn3 : n < 1073741824 := by omega
  by_cases h : 0 < x
  · refine ⟨x % n, x / n, z, fnM_eq rfl ?_, Int.emod_nonneg _ (by omega), Int.emod_lt_of_pos _ hn, Int.ediv_nonneg hx (by omega), hz, by omega⟩
    simp [bm__law_take_d4ae, mSeq, mIfS, bnS, mTest, mOp, mUn, mVar, bn, bnd, mC, mKon, mNil, mCons, mCB, lft, dvw, sv, lvX, lvQ, iOf, bOf, sOf, kOf, uOf, fGt, fLt, fGe, fLe, fCmp, fI, fI0, cMod, cDiv, cPow, cMul, mAsg, mgName, mRet, mRetN, atI, ixN, mSetI, mDPut, mgSub, okO, mIf, mAnd, mOr, mNot, mAndV, mOrV, mNotV, mNext, mDrop, mPar, mPar3, mTup, mLst, mLstC, mDNew, mDNewC, mCall, fAdd, fMul, fIx, fLen, f1I, f2I, hb', h, hn, hn3, bagC]
  · have h0 : x = 0 := by omega
    subst h0
    have g1 : (y + 5000011 * (z + 1)).natAbs < 18446744073709551616 := by omega
    have g0 := Int.emod_lt_of_pos ((y + 5000011 * (z + 1)) ^ 3) (b := 2305843009213693921) (by decide)
    have g0' := Int.emod_nonneg ((y + 5000011 * (z + 1)) ^ 3) (b := 2305843009213693921) (by decide)
    have g2 : ((y + 5000011 * (z + 1)) ^ 3 % 2305843009213693921 + 71993051 * (z + 1)).natAbs < 18446744073709551616 := by omega
    refine ⟨((y + 5000011 * (z + 1)) ^ 3 % 2305843009213693921 + 71993051 * (z + 1)) ^ 2 % 2305843009213693951 / 2048 % n, 0, z + 1, fnM_eq rfl ?_, Int.emod_nonneg _ (by omega), Int.emod_lt_of_pos _ hn, by omega, by omega, by omega⟩
    have hs : ∀ c, (st.set b c)[b]? = some c := fun c => List.getElem?_set_self hl
    simp [bm__law_take_d4ae, mSeq, mIfS, bnS, mTest, mOp, mUn, mVar, bn, bnd, mC, mKon, mNil, mCons, mCB, lft, dvw, sv, lvX, lvQ, iOf, bOf, sOf, kOf, uOf, fGt, fLt, fGe, fLe, fCmp, fI, fI0, cMod, cDiv, cPow, cMul, mAsg, mgName, mRet, mRetN, atI, ixN, mSetI, mDPut, mgSub, okO, mIf, mAnd, mOr, mNot, mAndV, mOrV, mNotV, mNext, mDrop, mPar, mPar3, mTup, mLst, mLstC, mDNew, mDNewC, mCall, fAdd, fMul, fIx, fLen, f1I, f2I, hb', hn, hn3, bagC, hs, g1, g2]
/-- a draw -/
theorem take_ok {s t : GS} {b : Nat} {k n : Int} (hB : Bag s b k) (hk : k ≤ 100000000) (hn : 0 < n) (hn2 : n < 1000000) :
    ∃ r c, m__law_take_d4ae [.obj b, .v (.int n)] (s ++ t) = some (.ok (.v (.int r)) (s.set b c ++ t)) ∧ 0 ≤ r ∧ r < n ∧ Bag (s.set b c) b (k + 1) ∧ flatC c = true := by
  obtain ⟨x, y, z, hb, hx, hy, hy2, hz, hz2⟩ := hB
  have hl := (List.getElem?_eq_some_iff.mp hb).1
  obtain ⟨r, x', z', e, r1, r2, r3, r4, r5⟩ := take_raw (st := s ++ t) (by rw [List.getElem?_append_left hl]; exact hb) hn hn2 hx hy hy2 hz (by omega)
  refine ⟨r, bagC x' y z', ?_, r1, r2, ⟨x', y, z', List.getElem?_set_self hl, r3, hy, hy2, r4, by omega⟩, rfl⟩
  rw [← List.set_append_left _ _ hl]
  exact gc_nil e (by rw [List.length_set])
theorem p10 (s : GS) : fI cPow (fun i j => .int (i ^ j.toNat)) (.v (.int 10)) (.v (.int 18)) s = some (.v (.int 1000000000000000000), s) := by
  show (if cPow 10 18 = true then some (D.v (V.int ((10 : Int) ^ (18 : Int).toNat)), s) else none) = _
  rw [if_pos (by decide +kernel), show (10 : Int) ^ (18 : Int).toNat = 1000000000000000000 from by decide +kernel]
theorem bag_raw {st : GS} {ns : List Int} {i : Nat} {v : Int} (hv : (if (i : Int) < ns.length then (ns.map fun i => D.v (V.int i))[i]? else some (.v (.int 0))) = some (.v (.int v))) :
    ∃ x, 0 ≤ x ∧ mFn 2 4 bm__law_bag_4c78 [.lsk (ns.map fun i => .v (.int i)), .v (.int i)] st = some (.ok (.obj st.length) (st ++ [bagC x ((v % 2305843009213693951 + 6211 * (i : Int) + 17) * 92821993 % 2305843009213693951) 0])) := by
  have n0 : ¬ ((i : Int) < 0) := by omega
  generalize hL : (ns.map fun i => D.v (V.int i)) = L at hv
  have hl : (ns.length : Int) = L.length := by rw [← hL, List.length_map]
  rw [hl] at hv
  -- the cell
  have e1 : ∀ e : EnvD, e[0]? = some (some (.lsk L)) → e[1]? = some (some (.v (.int i))) → mIf (mTest (mOp fLt (mVar 1) (mCB fLen (mCons (mVar 0) mNil)))) (mOp fIx (mVar 0) (mVar 1)) (mC (.int 0)) e st = some (.ok (.v (.int v)) st) := by
    intro e h0 h1
    by_cases h : (i : Int) < L.length
    · rw [if_pos h] at hv
      have hi : fIx (.lsk L) (.v (.int i)) st = some (.v (.int v), st) := by
        show (atI L (i : Int)).map _ = _
        have : atI L (i : Int) = L[i]? := by
          unfold atI ixN
          rw [if_pos (by omega), if_pos h]
          rfl
        rw [this, hv]
        rfl
      simp only [mIf, mTest, mOp, mVar, mCB, mCons, mNil, bn, h0, h1, fLen, dvw, sv, lvQ, lft, fLt, fCmp, decide_eq_true h, bOf, if_true, hi]
    · rw [if_neg h] at hv
      cases hv
      simp only [mIf, mTest, mOp, mVar, mCB, mCons, mNil, bn, h0, h1, fLen, dvw, sv, lvQ, lft, fLt, fCmp, decide_eq_false h, bOf, if_false, mC, Bool.false_eq_true]
  have hb1 : cMul (v % 2305843009213693951 + 6211 * (i : Int) + 17) 92821993 = true := decide_eq_true (.inr ⟨by decide, by decide⟩)
  have hb2 : cMul 6211 (i : Int) = true := decide_eq_true (.inl ⟨by decide, by decide⟩)
  have e3 : ∀ y : Int, mRet (mLstC (mCons (mVar 3) (mCons (mOp (fI cMod fun i j => .int (i % j)) (mOp fMul (mOp fAdd (mOp fAdd (mOp (fI cMod fun i j => .int (i % j)) (mVar 2) (mC (.int 2305843009213693951))) (mOp fMul (mC (.int 6211)) (mVar 1))) (mC (.int 17))) (mC (.int 92821993))) (mC (.int 2305843009213693951))) (mCons (mC (.int 0)) mNil))))
      [some (.lsk L), some (.v (.int i)), some (.v (.int v)), some (.v (.int y))] st = some (.rt (.obj st.length) (st ++ [bagC y ((v % 2305843009213693951 + 6211 * (i : Int) + 17) * 92821993 % 2305843009213693951) 0])) := by
    intro y
    have m1 : ∀ z : Int, fI cMod (fun i j => .int (i % j)) (.v (.int z)) (.v (.int 2305843009213693951)) st = some (.v (.int (z % 2305843009213693951)), st) := fun z => rfl
    simp only [mRet, mLstC, mCons, mNil, mOp, mVar, mC, bn, bnS, lft, m1, fMul, fAdd, hb1, hb2, if_true, List.length_cons, List.length_nil, List.getElem?_cons_succ, List.getElem?_cons_zero]
    rfl
  have e2 : ∀ y : Int, (∀ e : EnvD, e[2]? = some (some (.v (.int v))) → mIf (mTest (mOp fGe (mCB (f1I fun i => if i < 0 then -i else i) (mCons (mVar 2) mNil)) (mOp (fI cPow fun i j => .int (i ^ j.toNat)) (mC (.int 10)) (mC (.int 18))))) (mCB (f1I fun i => if i < 0 then -i else i) (mCons (mVar 2) mNil)) (mC (.int 0)) e st = some (.ok (.v (.int y)) st)) →
      mFn 2 4 bm__law_bag_4c78 [.lsk L, .v (.int i)] st = some (.ok (.obj st.length) (st ++ [bagC y ((v % 2305843009213693951 + 6211 * (i : Int) + 17) * 92821993 % 2305843009213693951) 0])) := by
    intro y hy
    refine fnM_eq rfl ?_
    show bm__law_bag_4c78 [some (.lsk L), some (.v (.int i)), none, none] st = _
    have h1 := e1 [some (.lsk L), some (.v (.int i)), none, none] rfl rfl
    have h2 := hy [some (.lsk L), some (.v (.int i)), some (.v (.int v)), none] rfl
    unfold bm__law_bag_4c78
    simp only [mSeq, mAsg, bnS, h1, h2, mgName, List.set_cons_succ, List.set_cons_zero, e3]
  by_cases h2 : 1000000000000000000 ≤ (if v < 0 then -v else v)
  · refine ⟨if v < 0 then -v else v, by split <;> omega, e2 _ fun e he => ?_⟩
    have q : fGe (.v (.int (if v < 0 then -v else v))) (.v (.int 1000000000000000000)) st = some (.v (.bl true), st) := by
      show some (D.v (V.bl (decide _)), st) = _
      rw [decide_eq_true h2]
    simp only [mIf, mTest, mOp, mCB, mCons, mNil, mVar, mC, bn, lft, he, f1I, p10, q, bOf, if_true]
  · refine ⟨0, by omega, e2 _ fun e he => ?_⟩
    have q : fGe (.v (.int (if v < 0 then -v else v))) (.v (.int 1000000000000000000)) st = some (.v (.bl false), st) := by
      show some (D.v (V.bl (decide _)), st) = _
      rw [decide_eq_false h2]
    simp only [mIf, mTest, mOp, mCB, mCons, mNil, mVar, mC, bn, lft, he, f1I, p10, q, bOf, if_false, Bool.false_eq_true]
/-- a bag is made -/
theorem bag_ok {st : GS} (ns : List Int) (i : Nat) :
    ∃ c, m__law_bag_4c78 [.lsk (ns.map fun i => .v (.int i)), .v (.int i)] st = some (.ok (.obj st.length) (st ++ [c])) ∧ Bag (st ++ [c]) st.length 0 ∧ flatC c = true := by
  obtain ⟨v, hv⟩ : ∃ v : Int, (if (i : Int) < ns.length then (ns.map fun i => D.v (V.int i))[i]? else some (.v (.int 0))) = some (.v (.int v)) := by
    by_cases h : (i : Int) < ns.length
    · rw [if_pos h]
      have h' : i < ns.length := by omega
      exact ⟨ns[i], by rw [List.getElem?_map, List.getElem?_eq_getElem h']; rfl⟩
    · rw [if_neg h]
      exact ⟨0, rfl⟩
  obtain ⟨x, hx, e⟩ := bag_raw (st := st) hv
  have y1 := Int.emod_nonneg ((v % 2305843009213693951 + 6211 * (i : Int) + 17) * 92821993) (b := 2305843009213693951) (by decide)
  have y2 := Int.emod_lt_of_pos ((v % 2305843009213693951 + 6211 * (i : Int) + 17) * 92821993) (b := 2305843009213693951) (by decide)
  generalize ((v % 2305843009213693951 + 6211 * (i : Int) + 17) * 92821993 % 2305843009213693951) = y at e y1 y2
  refine ⟨bagC x y 0, ?_, ⟨x, y, 0, ?_, hx, y1, y2, by omega, by omega⟩, rfl⟩
  · unfold m__law_bag_4c78 gcM
    rw [e]
    show (if (bdD st.length (.obj st.length) && _) = true then _ else _) = _
    rw [show bdD st.length (.obj st.length) = false from by simp [bdD]]
    rfl
  · rw [List.getElem?_append_right (Nat.le_refl _), Nat.sub_self]
    rfl
/-- a comprehension whose steps change nothing -/
theorem mCol_pure {g : MG} {t : MT} {e : ME} {env : EnvD} {s : GS} (c : D → Bool) (x : D → D) : ∀ {ds : List D}, (∀ d ∈ ds, ∃ e1, g d env s = some (e1, s) ∧ t e1 s = some (.ok (c d) s) ∧ (c d = true → e e1 s = some (.ok (x d) s))) →
    mCol g t e env ds s = some (.ok ((ds.filter c).map x) s)
  | [], _ => rfl
  | d :: ds, h => by
    obtain ⟨e1, h1, h2, h3⟩ := h d (List.mem_cons_self ..)
    have ih := mCol_pure c x (ds := ds) fun d' hd => h d' (List.mem_cons_of_mem _ hd)
    unfold mCol
    rw [h1]
    cases hc : c d with
    | true =>
      rw [hc] at h2
      simp only [bq, h2, if_true, h3 hc, ih, List.filter_cons, hc, List.map_cons]
    | false =>
      rw [hc] at h2
      simp only [bq, h2, Bool.false_eq_true, if_false, ih, List.filter_cons, hc]
theorem mLc_eq {i : MI} {g : MG} {t : MT} {e : ME} {vs : List Nat} {env : EnvD} {st s s' : GS} {ds xs : List D} (h1 : i env st = some (.ok ds s)) (hl : ds.length ≤ 100000) (h2 : mCol g t e (wipeD env vs) ds s = some (.ok xs s')) : mLc i g t e vs env st = some (.ok (.lst xs) s') := by
  unfold mLc
  rw [h1]
  simp only [bn, hl, if_true, bq, h2]
/-- a loop that runs to its end -/
theorem mLoop_n {g : MG} {b : MS} (P : Nat → EnvD → GS → Prop) : ∀ (ds : List D) (k : Nat) (env : EnvD) (s : GS), P k env s →
    (∀ i d env s, ds[i]? = some d → P (k + i) env s → ∃ e1 s1 e2 s2, g d env s = some (e1, s1) ∧ (b e1 s1 = some (.nx e2 s2) ∨ b e1 s1 = some (.ct e2 s2)) ∧ P (k + i + 1) e2 s2) →
    ∃ e s', mLoop g b ds env s = some (.nx e s') ∧ P (k + ds.length) e s'
  | [], k, env, s, p, _ => ⟨env, s, rfl, p⟩
  | d :: ds, k, env, s, p, h => by
    obtain ⟨e1, s1, e2, s2, h1, h2, h3⟩ := h 0 d env s rfl p
    obtain ⟨e, s', q1, q2⟩ := mLoop_n P ds (k + 1) e2 s2 h3 fun i d' e' s' hi hp => by
      have e : k + (i + 1) = k + 1 + i := by omega
      have := h (i + 1) d' e' s' hi (by rw [e]; exact hp)
      rw [e] at this
      exact this
    refine ⟨e, s', ?_, by rw [List.length_cons, show k + (ds.length + 1) = k + 1 + ds.length from by omega]; exact q2⟩
    unfold mLoop
    rw [h1]
    rcases h2 with h2 | h2
    · simp only [h2]; exact q1
    · simp only [h2]; exact q1
theorem ssOf_sgs : ∀ l : List Nat, ssOf (sgsD l) = some (l.map sgS)
  | [] => rfl
  | c :: l => by
    show ((sOf (.v (.str (sgS c)))).bind fun x => (ssOf (sgsD l)).map (x :: ·)) = _
    rw [ssOf_sgs l]
    rfl
theorem sum_ones (l : List Nat) : (((l.map sgS).map (·.length)).sum) = l.length := by
  induction l with
  | nil => rfl
  | cons c l ih => rw [List.map_cons, List.map_cons, List.sum_cons, ih, List.length_cons]; show 1 + _ = _; omega
/-- all items are texts of one sign: joined -/
theorem fjoin_sgs {st : GS} {l : List Nat} (h : l.length ≤ 100000) : fJoin (.v (.str (Str.ofString ""))) (.lst (sgsD l)) st = some (.v (.str (stL l)), st) := by
  have e : (match ssOf (sgsD l) with
    | some ys => if (ys.map (·.length)).sum + ys.length * (Str.ofString "").length ≤ 100000 then some (D.v (.str (Txt.join (Str.ofString "") ys)), st) else none
    | none => none) = some (.v (.str (stL l)), st) := by
    rw [ssOf_sgs]
    show (if ((l.map sgS).map (·.length)).sum + (l.map sgS).length * 0 ≤ 100000 then _ else _) = _
    rw [sum_ones, Nat.mul_zero, Nat.add_zero, if_pos h, show Str.ofString "" = ⟨#[]⟩ from rfl, join_sgs]
  exact e
theorem Bag.up {st : GS} {b : Nat} {k k' : Int} (h : Bag st b k) (hk : k ≤ k') : Bag st b k' := by
  obtain ⟨x, y, z, e, h1, h2, h3, h4, h5⟩ := h
  exact ⟨x, y, z, e, h1, h2, h3, h4, by omega⟩
/-- what a run that draws may change -/
structure Drw (st : GS) (b : Nat) (k : Int) (st' : GS) : Prop where
  bag : Bag st' b k
  len : st'.length = st.length
  but : ∀ j, j ≠ b → st'[j]? = st[j]?
  fl : Wf st → Wf st'
theorem Drw.refl {st : GS} {b : Nat} {k : Int} (h : Bag st b k) : Drw st b k st := ⟨h, rfl, fun _ _ => rfl, id⟩
theorem Drw.trans {st s1 s2 : GS} {b : Nat} {k k' : Int} (h : Drw st b k s1) (h' : Drw s1 b k' s2) : Drw st b k' s2 := ⟨h'.bag, h'.len.trans h.len, fun j hj => (h'.but j hj).trans (h.but j hj), fun f => h'.fl (h.fl f)⟩
theorem Drw.up {st s1 : GS} {b : Nat} {k k' : Int} (h : Drw st b k s1) (hk : k ≤ k') : Drw st b k' s1 := ⟨h.bag.up hk, h.len, h.but, h.fl⟩
theorem drawT {st s : GS} (t : GS) {b : Nat} {k n : Int} (hB : Drw st b k s) (hk : k ≤ 100000000) (hn : 0 < n) (hn2 : n < 1000000) :
    ∃ r s', m__law_take_d4ae [.obj b, .v (.int n)] (s ++ t) = some (.ok (.v (.int r)) (s' ++ t)) ∧ 0 ≤ r ∧ r < n ∧ Drw st b (k + 1) s' := by
  obtain ⟨r, c, e, h1, h2, h3, h4⟩ := take_ok (t := t) hB.bag hk hn hn2
  exact ⟨r, _, e, h1, h2, h3, by rw [List.length_set]; exact hB.len, fun j hj => (List.getElem?_set_ne (Ne.symm hj)).trans (hB.but j hj), fun f => (hB.fl f).set (flat_bd h4)⟩
theorem mtake_eq {ea eb : ME} {env : EnvD} {s s' : GS} {b : Nat} {n r : Int} (h1 : ea env s = some (.ok (.obj b) s)) (h2 : eb env s = some (.ok (.v (.int n)) s)) (h : m__law_take_d4ae [.obj b, .v (.int n)] s = some (.ok (.v (.int r)) s')) :
    mCall m__law_take_d4ae [] (mCons ea (mCons eb mNil)) env s = some (.ok (.v (.int r)) s') := by
  simp only [mCall, mCons, mNil, bn, h1, h2, List.append_nil, h]
theorem fix_str {s : GS} {z : Str} {r : Int} {c : Nat} (h0 : 0 ≤ r) (h : z.cps.toList[r.toNat]? = some c) (hz : z.length ≤ 100000) : fIx (.v (.str z)) (.v (.int r)) s = some (.v (.str (sgS c)), s) := by
  show (if z.length ≤ 100000 then (atI z.cps.toList r).map (fun c => (D.v (V.str ⟨#[c]⟩), s)) else none) = _
  have hl := (List.getElem?_eq_some_iff.mp h).1
  have e : atI z.cps.toList r = some c := by
    unfold atI ixN
    rw [if_pos h0, if_pos (by omega)]
    exact h
  rw [if_pos hz, e]
  rfl
theorem rng1_eq {a : ME} {env : EnvD} {s s' : GS} {n : Int} (h : a env s = some (.ok (.v (.int n)) s')) (h1 : -100000 ≤ n) (h2 : n ≤ 100000) : mRng1 (mCons a mNil) env s = some (.ok (rng 0 n.toNat) s') := by
  simp only [mRng1, mCons, mNil, bn, h, h1, h2, and_self, if_true]
end Nm
set_option Elab.async false
set_option linter.all false
set_option maxRecDepth 100000
set_option maxHeartbeats 4000000
namespace Nm
open PySem PySem.Spec PyProof.Rows L2 Evl
abbrev FKS : Str := "A1B2_Z9"
abbrev FWS : Str := "aabc':^"
abbrev MKS : Str := "':^~"
def FK : List Nat := FKS.cps.toList
structure FsOk (fs : Fds) (n : Nat) : Prop where
  nd : (fs.map (·.1)).Nodup
  ky : ∀ p ∈ fs, p.1 ∈ FK.take n
  wd : ∀ p ∈ fs, 1 ≤ p.2.length ∧ p.2.length ≤ 3 ∧ ∀ c ∈ p.2, c ∈ FWS.cps.toList
structure MsOk (ms : Mks) (n : Nat) : Prop where
  nd : (ms.map (·.1)).Nodup
  ky : ∀ p ∈ ms, p.1 ∈ MKS.cps.toList.take n
  cl : ∀ p ∈ ms, p.2 = 1 ∨ p.2 = 2 ∨ p.2 = 3
theorem fk_facts : FK.all sgn = true ∧ FWS.cps.toList.all (fun c => sgn c && !decide (c ∈ FK)) = true ∧ MKS.cps.toList.all (fun c => sgn c && !decide (c ∈ FK)) = true ∧ FK.length = 7 ∧ MKS.cps.toList.length = 4 ∧ FWS.cps.toList.length = 7 ∧ FK.Nodup ∧ MKS.cps.toList.Nodup := by decide +kernel
theorem nd_len {α : Type} [BEq α] [LawfulBEq α] : ∀ {l m : List α}, l.Nodup → (∀ x ∈ l, x ∈ m) → l.length ≤ m.length
  | [], m, _, _ => Nat.zero_le _
  | a :: l, m, hn, h => by
    obtain ⟨h1, h2⟩ := List.nodup_cons.mp hn
    have ha := h a (List.mem_cons_self ..)
    have ih := nd_len (l := l) (m := m.erase a) h2 fun x hx => (List.mem_erase_of_ne (fun e => h1 (by rw [← e]; exact hx))).mpr (h x (List.mem_cons_of_mem _ hx))
    rw [List.length_erase_of_mem ha] at ih
    have : 0 < m.length := List.length_pos_of_mem ha
    rw [List.length_cons]
    omega
theorem take_succ_mem {l : List Nat} {i c : Nat} (h : l[i]? = some c) : c ∈ l.take (i + 1) := by
  rw [List.take_add_one, h]
  exact List.mem_append_right _ (List.mem_singleton.mpr rfl)
theorem take_up {l : List Nat} {i c : Nat} (h : c ∈ l.take i) : c ∈ l.take (i + 1) := by
  rw [List.take_add_one]
  exact List.mem_append_left _ h
theorem not_take {l : List Nat} {i c : Nat} (hn : l.Nodup) (h : l[i]? = some c) : c ∉ l.take i := fun hm => by
  obtain ⟨h1, e1⟩ := List.getElem?_eq_some_iff.mp h
  obtain ⟨j, hj, e2⟩ := List.mem_take_iff_getElem.mp hm
  have := (List.getElem_inj hn).mp (e2.trans e1.symm)
  omega
theorem FsOk.snoc {fs : Fds} {i c : Nat} {l : List Nat} (h : FsOk fs i) (hc : FK[i]? = some c) (hl : 1 ≤ l.length ∧ l.length ≤ 3 ∧ ∀ d ∈ l, d ∈ FWS.cps.toList) : FsOk (fs ++ [(c, l)]) (i + 1) ∧ lk fs c = none := by
  have hn := not_take fk_facts.2.2.2.2.2.2.1 hc
  have hnk : c ∉ fs.map (·.1) := fun hm => by
    obtain ⟨p, hp, e⟩ := List.mem_map.mp hm
    exact hn (by rw [← e]; exact h.ky p hp)
  refine ⟨⟨by rw [List.map_append]; exact nd_snoc h.nd hnk, fun p hp => ?_, fun p hp => ?_⟩, lk_none.mpr fun p hp e => hnk (List.mem_map.mpr ⟨p, hp, e⟩)⟩
  · rcases List.mem_append.mp hp with q | q
    · exact take_up (h.ky p q)
    · rw [List.mem_singleton.mp q]
      exact take_succ_mem hc
  · rcases List.mem_append.mp hp with q | q
    · exact h.wd p q
    · rw [List.mem_singleton.mp q]
      exact hl
theorem FsOk.skip {fs : Fds} {i : Nat} (h : FsOk fs i) : FsOk fs (i + 1) := ⟨h.nd, fun p hp => take_up (h.ky p hp), h.wd⟩
theorem MsOk.snoc {ms : Mks} {i c : Nat} {x : Int} (h : MsOk ms i) (hc : MKS.cps.toList[i]? = some c) (hx : x = 1 ∨ x = 2 ∨ x = 3) : MsOk (ms ++ [(c, x)]) (i + 1) ∧ lk ms c = none := by
  have hn := not_take fk_facts.2.2.2.2.2.2.2 hc
  have hnk : c ∉ ms.map (·.1) := fun hm => by
    obtain ⟨p, hp, e⟩ := List.mem_map.mp hm
    exact hn (by rw [← e]; exact h.ky p hp)
  refine ⟨⟨by rw [List.map_append]; exact nd_snoc h.nd hnk, fun p hp => ?_, fun p hp => ?_⟩, lk_none.mpr fun p hp e => hnk (List.mem_map.mpr ⟨p, hp, e⟩)⟩
  · rcases List.mem_append.mp hp with q | q
    · exact take_up (h.ky p q)
    · rw [List.mem_singleton.mp q]
      exact take_succ_mem hc
  · rcases List.mem_append.mp hp with q | q
    · exact h.cl p q
    · rw [List.mem_singleton.mp q]
      exact hx
theorem MsOk.skip {ms : Mks} {i : Nat} (h : MsOk ms i) : MsOk ms (i + 1) := ⟨h.nd, fun p hp => take_up (h.ky p hp), h.cl⟩
theorem mark_alone {fs : Fds} {ms : Mks} (ro : RuleOk fs ms) {c : Nat} (h : isM ms c = true) : lk fs c = none := by
  obtain ⟨x, hx⟩ := Option.isSome_iff_exists.mp h
  exact (ro.mg _ (lk_mem hx)).2
end Nm
set_option Elab.async false
set_option linter.all false
set_option maxRecDepth 100000
set_option maxHeartbeats 4000000
namespace Nm
open PySem PySem.Spec PyProof.Rows L2 Evl
def dF (fs : Fds) : List (Key × D) := fs.map fun p => (Sum.inr (sgS p.1), .v (.str (stL p.2)))
def dM (ms : Mks) : List (Key × D) := ms.map fun p => (Sum.inr (sgS p.1), .v (.int p.2))
theorem valD_lk {α : Type} (g : α → D) : ∀ (l : List (Nat × α)) (c : Nat), valD (l.map fun p => ((Sum.inr (sgS p.1) : Key), g p.2)) (Sum.inr (sgS c)) = (lk l c).map g
  | [], c => rfl
  | p :: r, c => by
    have ih := valD_lk g r c
    unfold valD lk at ih ⊢
    rw [List.map_cons, List.find?_cons, List.find?_cons]
    by_cases h : p.1 = c
    · rw [decide_eq_true h, decide_eq_true (by rw [h])]
      rfl
    · rw [decide_eq_false h, decide_eq_false (fun e => h (sgS_inj (Sum.inr.inj e)))]
      exact ih
theorem valD_dF (fs : Fds) (c : Nat) : valD (dF fs) (Sum.inr (sgS c)) = (lk fs c).map fun w => .v (.str (stL w)) := valD_lk (fun w => D.v (.str (stL w))) fs c
theorem valD_dM (ms : Mks) (c : Nat) : valD (dM ms) (Sum.inr (sgS c)) = (lk ms c).map fun w => .v (.int w) := valD_lk (fun w => D.v (.int w)) ms c
theorem putD_new {ks : List (Key × D)} {k : Key} {d : D} (h : valD ks k = none) : putD ks k d = ks ++ [(k, d)] := by
  have : (ks.any fun kv => decide (kv.1 = k)) = false := by
    rw [List.any_eq_false]
    intro kv hkv e
    unfold valD at h
    rw [Option.map_eq_none_iff, List.find?_eq_none] at h
    exact h kv hkv e
  unfold putD
  rw [this, if_neg (by decide)]
theorem dF_snoc (fs : Fds) {c : Nat} {l : List Nat} (h : lk fs c = none) : putD (dF fs) (Sum.inr (sgS c)) (.v (.str (stL l))) = dF (fs ++ [(c, l)]) := by
  rw [putD_new (by rw [valD_dF, h]; rfl)]
  simp [dF]
theorem dM_snoc (ms : Mks) {c : Nat} {x : Int} (h : lk ms c = none) : putD (dM ms) (Sum.inr (sgS c)) (.v (.int x)) = dM (ms ++ [(c, x)]) := by
  rw [putD_new (by rw [valD_dM, h]; rfl)]
  simp [dM]
theorem dF_len (fs : Fds) : (dF fs).length = fs.length := List.length_map ..
theorem dM_len (ms : Mks) : (dM ms).length = ms.length := List.length_map ..
/-- signs drawn out of a text -/
theorem col_draw {st : GS} (t : GS) {b j : Nat} {env : EnvD} {te : ME} {z : Str} {m : Int} {p : Nat → Prop} (hm : 0 < m) (hm2 : m < 1000000) (hz : ∀ i : Nat, (i : Int) < m → ∃ c, z.cps.toList[i]? = some c ∧ p c) (hzl : z.length ≤ 100000)
    (hte : ∀ d s, te (env.set j (some d)) s = some (.ok (.v (.str z)) s)) (h0 : ∀ d, (env.set j (some d))[0]? = some (some (.obj b))) : ∀ (ds : List D) (s : GS) (k : Int), k + (ds.length : Nat) ≤ 50000000 → Drw st b k s →
    ∃ l s', mCol (mgName j) mYes (mOp fIx te (mCall m__law_take_d4ae [] (mCons (mVar 0) (mCons (mC (.int m)) mNil)))) env ds (s ++ t) = some (.ok (sgsD l) (s' ++ t)) ∧ l.length = ds.length ∧ (∀ c ∈ l, p c) ∧ Drw st b (k + (ds.length : Nat)) s'
  | [], s, k, _, hD => ⟨[], s, rfl, rfl, fun _ h => (nomatch h), hD.up (by simp)⟩
  | d :: ds, s, k, hk, hD => by
    rw [List.length_cons] at hk
    obtain ⟨r, s1, e1, r0, r1, d1⟩ := drawT t hD (n := m) (by omega) hm hm2
    obtain ⟨c, hc, pc⟩ := hz r.toNat (by omega)
    obtain ⟨l, s', e2, l2, pl, d2⟩ := col_draw t hm hm2 hz hzl hte h0 ds s1 (k + 1) (by omega) d1
    refine ⟨c :: l, s', ?_, by rw [List.length_cons, List.length_cons, l2], fun x hx => (List.mem_cons.mp hx).elim (fun e => e ▸ pc) (pl x), d2.up (by rw [List.length_cons]; omega)⟩
    have e3 : mCall m__law_take_d4ae [] (mCons (mVar 0) (mCons (mC (.int m)) mNil)) (env.set j (some d)) (s ++ t) = some (.ok (.v (.int r)) (s1 ++ t)) := mtake_eq (by simp only [mVar, h0 d]) rfl e1
    have e4 : mOp fIx te (mCall m__law_take_d4ae [] (mCons (mVar 0) (mCons (mC (.int m)) mNil))) (env.set j (some d)) (s ++ t) = some (.ok (.v (.str (sgS c))) (s1 ++ t)) := by
      simp only [mOp, hte, e3, bn, fix_str r0 hc hzl, lft]
    unfold mCol
    simp only [mgName, mYes, bq, e4, if_true, e2]
    rfl
theorem fEq_int {i j : Int} {s : GS} : fEq (.v (.int i)) (.v (.int j)) s = some (.v (.bl (decide (i = j))), s) := by
  show (if scal (.int i) (.int j) = true then some (decide (V.int i = V.int j)) else none).map _ = _
  rw [if_pos (show scal _ _ = true from rfl)]
  simp
theorem fNe_str {a b : Str} {s : GS} : fNe (.v (.str a)) (.v (.str b)) s = some (.v (.bl (!decide (a = b))), s) := by
  show (if scal (.str a) (.str b) = true then some (decide (V.str a = V.str b)) else none).map _ = _
  rw [if_pos (show scal _ _ = true from rfl)]
  simp
theorem fws7 : ∀ i : Nat, (i : Int) < 7 → ∃ c, FWS.cps.toList[i]? = some c ∧ c ∈ FWS.cps.toList := fun i h => by
  have hl : i < FWS.cps.toList.length := by
    rw [show FWS.cps.toList.length = 7 from by decide +kernel]
    omega
  exact ⟨_, List.getElem?_eq_getElem hl, List.getElem_mem hl⟩
theorem mItems_str {z : Str} {env : EnvD} {s : GS} : mItems (mC (.str z)) env s = some (.ok (sgsD z.cps.toList) s) := rfl
theorem mFor_eq {i : MI} {g : MG} {b : MS} {env e : EnvD} {st s s' : GS} {ds : List D} (h : i env st = some (.ok ds s)) (h2 : mLoop g b ds env s = some (.nx e s')) : mFor i g b env st = some (.nx e s') := by
  simp only [mFor, bnS, h, h2]
theorem rule_ok0 {fs : Fds} {i : Nat} (h : FsOk fs i) : fs.length ≤ 7 := by
  have := nd_len (m := FK) h.nd fun x hx => by
    obtain ⟨p, hp, rfl⟩ := List.mem_map.mp hx
    exact List.mem_of_mem_take (h.ky p hp)
  rw [List.length_map, fk_facts.2.2.2.1] at this
  exact this
theorem rule_ok1 {ms : Mks} {i : Nat} (h : MsOk ms i) : ms.length ≤ 4 := by
  have := nd_len (m := MKS.cps.toList) h.nd fun x hx => by
    obtain ⟨p, hp, rfl⟩ := List.mem_map.mp hx
    exact List.mem_of_mem_take (h.ky p hp)
  rw [List.length_map, fk_facts.2.2.2.2.1] at this
  exact this
/-- one turn: perhaps a fold -/
theorem rule_fold {st s : GS} {b i c : Nat} {k : Int} {fs : Fds} {o4 : Option D} {t1 : Cell} (hD : Drw st b k s) (hk : k ≤ 1000000) (hf : FsOk fs i) (hc : FK[i]? = some c) :
    ∃ fs' o4' s' k', (mIfS (mTest (mOp fEq (mCall m__law_take_d4ae [] (mCons (mVar 0) (mCons (mC (.int 2)) mNil))) (mC (.int 0)))) (mSetI (mVar 1) (mVar 3) (mM1 fJoin (mC (.str "")) (mLc (mRng1 (mCons (mOp fIx (mLst (mCons (mC (.int 1)) (mCons (mC (.int 1)) (mCons (mC (.int 2)) (mCons (mC (.int 2)) (mCons (mC (.int 3)) mNil)))))) (mCall m__law_take_d4ae [] (mCons (mVar 0) (mCons (mC (.int 5)) mNil)))) mNil)) (mgName 4) mYes (mOp fIx (mC (.str "aabc':^")) (mCall m__law_take_d4ae [] (mCons (mVar 0) (mCons (mC (.int 7)) mNil)))) [4]))) mNext)
      [some (.obj b), some (.obj st.length), some (.obj (st.length + 1)), some (.v (.str (sgS c))), o4] (s ++ [.dic (dF fs), t1]) = some (.nx [some (.obj b), some (.obj st.length), some (.obj (st.length + 1)), some (.v (.str (sgS c))), o4'] (s' ++ [.dic (dF fs'), t1])) ∧ Drw st b k' s' ∧ k' ≤ k + 5 ∧ FsOk fs' (i + 1) := by
  obtain ⟨r, s1, e1, r0, r1, d1⟩ := drawT [.dic (dF fs), t1] hD (n := 2) (by omega) (by omega) (by omega)
  have c1 := mtake_eq (ea := mVar 0) (eb := mC (.int 2)) (env := [some (.obj b), some (.obj st.length), some (.obj (st.length + 1)), some (.v (.str (sgS c))), o4]) rfl rfl e1
  have q1 : mTest (mOp fEq (mCall m__law_take_d4ae [] (mCons (mVar 0) (mCons (mC (.int 2)) mNil))) (mC (.int 0))) [some (.obj b), some (.obj st.length), some (.obj (st.length + 1)), some (.v (.str (sgS c))), o4] (s ++ [.dic (dF fs), t1]) = some (.ok (decide (r = 0)) (s1 ++ [.dic (dF fs), t1])) := by
    simp only [mTest, mOp, c1, bn, mC, fEq_int, lft, bOf]
  by_cases h : r = 0
  · obtain ⟨r5, s2, e2, r50, r51, d2⟩ := drawT [.dic (dF fs), t1] d1 (n := 5) (by omega) (by omega) (by omega)
    have c2 := mtake_eq (ea := mVar 0) (eb := mC (.int 5)) (env := [some (.obj b), some (.obj st.length), some (.obj (st.length + 1)), some (.v (.str (sgS c))), o4]) rfl rfl e2
    obtain ⟨n, hn, n1, n3⟩ : ∃ n : Nat, fIx (.lst [.v (.int 1), .v (.int 1), .v (.int 2), .v (.int 2), .v (.int 3)]) (.v (.int r5)) (s2 ++ [.dic (dF fs), t1]) = some (.v (.int n), s2 ++ [.dic (dF fs), t1]) ∧ 1 ≤ n ∧ n ≤ 3 := by
      have : r5 = 0 ∨ r5 = 1 ∨ r5 = 2 ∨ r5 = 3 ∨ r5 = 4 := by omega
      rcases this with rfl | rfl | rfl | rfl | rfl
      · exact ⟨1, rfl, by omega, by omega⟩
      · exact ⟨1, rfl, by omega, by omega⟩
      · exact ⟨2, rfl, by omega, by omega⟩
      · exact ⟨2, rfl, by omega, by omega⟩
      · exact ⟨3, rfl, by omega, by omega⟩
    have q2 : mOp fIx (mLst (mCons (mC (.int 1)) (mCons (mC (.int 1)) (mCons (mC (.int 2)) (mCons (mC (.int 2)) (mCons (mC (.int 3)) mNil)))))) (mCall m__law_take_d4ae [] (mCons (mVar 0) (mCons (mC (.int 5)) mNil))) [some (.obj b), some (.obj st.length), some (.obj (st.length + 1)), some (.v (.str (sgS c))), o4] (s1 ++ [.dic (dF fs), t1]) = some (.ok (.v (.int n)) (s2 ++ [.dic (dF fs), t1])) := by
      have l5 : mLst (mCons (mC (.int 1)) (mCons (mC (.int 1)) (mCons (mC (.int 2)) (mCons (mC (.int 2)) (mCons (mC (.int 3)) mNil))))) [some (.obj b), some (.obj st.length), some (.obj (st.length + 1)), some (.v (.str (sgS c))), o4] (s1 ++ [.dic (dF fs), t1]) = some (.ok (.lst [.v (.int 1), .v (.int 1), .v (.int 2), .v (.int 2), .v (.int 3)]) (s1 ++ [.dic (dF fs), t1])) := rfl
      simp only [mOp, l5, c2, bn, hn, lft]
    obtain ⟨l, s3, e3, l3, pl, d3⟩ := col_draw (st := st) [.dic (dF fs), t1] (b := b) (j := 4) (env := [some (.obj b), some (.obj st.length), some (.obj (st.length + 1)), some (.v (.str (sgS c))), none]) (te := mC (.str "aabc':^")) (z := FWS) (m := 7) (by omega) (by omega) fws7 (by decide) (fun _ _ => rfl) (fun _ => rfl) (rng 0 n) s2 (k + 1 + 1) (by rw [rng_len]; omega) d2
    rw [rng_len] at l3 d3
    have q3 := mLc_eq (vs := [4]) (rng1_eq q2 (by omega) (by omega)) (by rw [rng_len]; omega) e3
    have hsn := FsOk.snoc hf hc (l := l) ⟨by omega, by omega, pl⟩
    refine ⟨fs ++ [(c, l)], o4, s3, k + 1 + 1 + (n : Nat), ?_, d3, by omega, hsn.1⟩
    have hl : s3.length = st.length := d3.len
    have g1 : (s3 ++ [Cell.dic (dF fs), t1])[st.length]? = some (.dic (dF fs)) := by rw [← hl, List.getElem?_append_right (Nat.le_refl _), Nat.sub_self]; rfl
    have g2 : ∀ x, (s3 ++ [Cell.dic (dF fs), t1]).set st.length x = s3 ++ [x, t1] := fun x => by rw [← hl, List.set_append_right _ _ (Nat.le_refl _), Nat.sub_self]; rfl
    have q4 : mM1 fJoin (mC (.str "")) (mLc (mRng1 (mCons (mOp fIx (mLst (mCons (mC (.int 1)) (mCons (mC (.int 1)) (mCons (mC (.int 2)) (mCons (mC (.int 2)) (mCons (mC (.int 3)) mNil)))))) (mCall m__law_take_d4ae [] (mCons (mVar 0) (mCons (mC (.int 5)) mNil)))) mNil)) (mgName 4) mYes (mOp fIx (mC (.str "aabc':^")) (mCall m__law_take_d4ae [] (mCons (mVar 0) (mCons (mC (.int 7)) mNil)))) [4]) [some (.obj b), some (.obj st.length), some (.obj (st.length + 1)), some (.v (.str (sgS c))), o4] (s1 ++ [.dic (dF fs), t1]) = some (.ok (.v (.str (stL l))) (s3 ++ [.dic (dF fs), t1])) := by
      simp only [mM1, mC, bn, sOf]
      rw [q3]
      simp only [fjoin_sgs (show l.length ≤ 100000 by omega), lft]
    simp only [mIfS, bnS, q1, decide_eq_true h, if_true, mSetI, mDPut, q4]
    have hfl : (dF fs).length < 100000 := by
      rw [dF_len]
      have := (rule_ok0 hf)
      omega
    have v1 : mVar 1 [some (.obj b), some (.obj st.length), some (.obj (st.length + 1)), some (.v (.str (sgS c))), o4] (s3 ++ [.dic (dF fs), t1]) = some (.ok (.obj st.length) (s3 ++ [.dic (dF fs), t1])) := rfl
    have v3 : mVar 3 [some (.obj b), some (.obj st.length), some (.obj (st.length + 1)), some (.v (.str (sgS c))), o4] (s3 ++ [.dic (dF fs), t1]) = some (.ok (.v (.str (sgS c))) (s3 ++ [.dic (dF fs), t1])) := rfl
    simp only [v1, v3, kOf, g1, hfl, if_true, g2, dF_snoc fs hsn.2]
  · refine ⟨fs, o4, s1, k + 1, ?_, d1, by omega, hf.skip⟩
    simp only [mIfS, bnS, q1, decide_eq_false h, Bool.false_eq_true, if_false, mNext]
theorem mark_turn {st s : GS} {b i c : Nat} {k : Int} {ms : Mks} {o4 : Option D} {t0 : Cell} (hD : Drw st b k s) (hk : k ≤ 1000000) (hf : MsOk ms i) (hc : MKS.cps.toList[i]? = some c) :
    ∃ ms' s' k', (mIfS (mTest (mOp fGt (mCall m__law_take_d4ae [] (mCons (mVar 0) (mCons (mC (.int 3)) mNil))) (mC (.int 0)))) (mSetI (mVar 2) (mVar 3) (mOp fAdd (mC (.int 1)) (mCall m__law_take_d4ae [] (mCons (mVar 0) (mCons (mC (.int 3)) mNil))))) mNext)
      [some (.obj b), some (.obj st.length), some (.obj (st.length + 1)), some (.v (.str (sgS c))), o4] (s ++ [t0, .dic (dM ms)]) = some (.nx [some (.obj b), some (.obj st.length), some (.obj (st.length + 1)), some (.v (.str (sgS c))), o4] (s' ++ [t0, .dic (dM ms')])) ∧ Drw st b k' s' ∧ k' ≤ k + 2 ∧ MsOk ms' (i + 1) := by
  obtain ⟨r, s1, e1, r0, r1, d1⟩ := drawT [t0, .dic (dM ms)] hD (n := 3) (by omega) (by omega) (by omega)
  have c1 := mtake_eq (ea := mVar 0) (eb := mC (.int 3)) (env := [some (.obj b), some (.obj st.length), some (.obj (st.length + 1)), some (.v (.str (sgS c))), o4]) rfl rfl e1
  have q1 : mTest (mOp fGt (mCall m__law_take_d4ae [] (mCons (mVar 0) (mCons (mC (.int 3)) mNil))) (mC (.int 0))) [some (.obj b), some (.obj st.length), some (.obj (st.length + 1)), some (.v (.str (sgS c))), o4] (s ++ [t0, .dic (dM ms)]) = some (.ok (decide (0 < r)) (s1 ++ [t0, .dic (dM ms)])) := by
    simp only [mTest, mOp, c1, bn, mC, fGt, fCmp, lft, bOf]
  by_cases h : 0 < r
  · obtain ⟨r5, s2, e2, r50, r51, d2⟩ := drawT [t0, .dic (dM ms)] d1 (n := 3) (by omega) (by omega) (by omega)
    have c2 := mtake_eq (ea := mVar 0) (eb := mC (.int 3)) (env := [some (.obj b), some (.obj st.length), some (.obj (st.length + 1)), some (.v (.str (sgS c))), o4]) rfl rfl e2
    have hsn := MsOk.snoc hf hc (x := 1 + r5) (by omega)
    refine ⟨ms ++ [(c, 1 + r5)], s2, k + 1 + 1, ?_, d2, by omega, hsn.1⟩
    have hl : s2.length = st.length := d2.len
    have g1 : (s2 ++ [t0, Cell.dic (dM ms)])[st.length + 1]? = some (.dic (dM ms)) := by rw [← hl, List.getElem?_append_right (Nat.le_add_right _ 1), Nat.add_sub_cancel_left]; rfl
    have g2 : ∀ x, (s2 ++ [t0, Cell.dic (dM ms)]).set (st.length + 1) x = s2 ++ [t0, x] := fun x => by rw [← hl, List.set_append_right _ _ (Nat.le_add_right _ 1), Nat.add_sub_cancel_left]; rfl
    have q4 : mOp fAdd (mC (.int 1)) (mCall m__law_take_d4ae [] (mCons (mVar 0) (mCons (mC (.int 3)) mNil))) [some (.obj b), some (.obj st.length), some (.obj (st.length + 1)), some (.v (.str (sgS c))), o4] (s1 ++ [t0, .dic (dM ms)]) = some (.ok (.v (.int (1 + r5))) (s2 ++ [t0, .dic (dM ms)])) := by
      simp only [mOp, mC, bn, c2, fAdd, lft]
    have hfl : (dM ms).length < 100000 := by
      rw [dM_len]
      have := (rule_ok1 hf)
      omega
    have v1 : mVar 2 [some (.obj b), some (.obj st.length), some (.obj (st.length + 1)), some (.v (.str (sgS c))), o4] (s2 ++ [t0, .dic (dM ms)]) = some (.ok (.obj (st.length + 1)) (s2 ++ [t0, .dic (dM ms)])) := rfl
    have v3 : mVar 3 [some (.obj b), some (.obj st.length), some (.obj (st.length + 1)), some (.v (.str (sgS c))), o4] (s2 ++ [t0, .dic (dM ms)]) = some (.ok (.v (.str (sgS c))) (s2 ++ [t0, .dic (dM ms)])) := rfl
    simp only [mIfS, bnS, q1, decide_eq_true h, if_true, mSetI, mDPut, q4, v1, v3, kOf, g1, hfl, g2, dM_snoc ms hsn.2]
  · refine ⟨ms, s1, k + 1, ?_, d1, by omega, hf.skip⟩
    simp only [mIfS, bnS, q1, decide_eq_false h, Bool.false_eq_true, if_false, mNext]
theorem sgsD_get {l : List Nat} {i : Nat} {d : D} (h : (sgsD l)[i]? = some d) : ∃ c, l[i]? = some c ∧ d = .v (.str (sgS c)) := by
  unfold sgsD at h
  rw [List.getElem?_map] at h
  obtain ⟨c, h1, h2⟩ := Option.map_eq_some_iff.mp h
  exact ⟨c, h1, h2.symm⟩
theorem cell0 {s : GS} {x y : Cell} : (s ++ [x, y])[s.length]? = some x := by rw [List.getElem?_append_right (Nat.le_refl _), Nat.sub_self]; rfl
theorem cell1 {s : GS} {x y : Cell} : (s ++ [x, y])[s.length + 1]? = some y := by rw [List.getElem?_append_right (Nat.le_add_right _ 1), Nat.add_sub_cancel_left]; rfl
theorem cset0 {s : GS} {x y z : Cell} : (s ++ [x, y]).set s.length z = s ++ [z, y] := by rw [List.set_append_right _ _ (Nat.le_refl _), Nat.sub_self]; rfl
theorem cset1 {s : GS} {x y z : Cell} : (s ++ [x, y]).set (s.length + 1) z = s ++ [x, z] := by rw [List.set_append_right _ _ (Nat.le_add_right _ 1), Nat.add_sub_cancel_left]; rfl
end Nm
set_option Elab.async false
set_option linter.all false
set_option maxRecDepth 100000
set_option maxHeartbeats 4000000
namespace Nm
open PySem PySem.Spec PyProof.Rows L2 Evl
theorem map_sgsD {α : Type} (l : List Nat) (f : D → α) : (sgsD l).map f = l.map fun c => f (.v (.str (sgS c))) := by unfold sgsD; rw [List.map_map]; rfl
theorem filter_sgsD (l : List Nat) (f : D → Bool) : (sgsD l).filter f = sgsD (l.filter fun c => f (.v (.str (sgS c)))) := by
  induction l with
  | nil => rfl
  | cons c l ih =>
    show List.filter f (.v (.str (sgS c)) :: sgsD l) = _
    rw [List.filter_cons, List.filter_cons, ih]
    split <;> rfl
theorem memsgs {l : List Nat} {d : D} (h : d ∈ sgsD l) : ∃ c ∈ l, d = .v (.str (sgS c)) := by
  obtain ⟨c, hc, rfl⟩ := List.mem_map.mp h
  exact ⟨c, hc, rfl⟩
/-- a comprehension over a text -/
theorem lcA_text {i j : Nat} {t : MT} {e : ME} {env : EnvD} {s : GS} {l : List Nat} (c : Nat → Bool) (x : Nat → D) (h0 : env[i]? = some (some (.v (.str (stL l))))) (hl : l.length ≤ 100000)
    (h : ∀ a ∈ l, t ((env.set j none).set j (some (.v (.str (sgS a))))) s = some (.ok (c a) s) ∧ (c a = true → e ((env.set j none).set j (some (.v (.str (sgS a))))) s = some (.ok (x a) s))) :
    mLcA i (mgName j) t e [j] env s = some (.ok (.lst ((l.filter c).map x)) s) := by
  have v : mVar i env s = some (.ok (.v (.str (stL l))) s) := by simp only [mVar, h0]
  have e1 : mLc (mItems (mVar i)) (mgName j) t e [j] env s = some (.ok (.lst ((l.filter c).map x)) s) := by
    refine mLc_eq (ds := sgsD l) (s := s) ?_ (by rw [sgsD_len]; exact hl) ?_
    · simp only [mItems, bn, v, itemsOf, stL_codes]
    · have := mCol_pure (g := mgName j) (t := t) (e := e) (env := wipeD env [j]) (s := s) (fun d => match sOf d with | some z => (match z.cps.toList with | a :: _ => c a | [] => false) | none => false) (fun d => match sOf d with | some z => (match z.cps.toList with | a :: _ => x a | [] => .v .non) | none => .v .non) (ds := sgsD l) fun d hd => by
        obtain ⟨a, ha, rfl⟩ := memsgs hd
        obtain ⟨h1, h2⟩ := h a ha
        exact ⟨_, rfl, h1, h2⟩
      rw [this, filter_sgsD, map_sgsD]
      rfl
  unfold mLcA
  rw [v]
  exact e1
theorem lcA_all {i j : Nat} {e : ME} {env : EnvD} {s : GS} {l : List Nat} (x : Nat → D) (h0 : env[i]? = some (some (.v (.str (stL l))))) (hl : l.length ≤ 100000)
    (h : ∀ a ∈ l, e ((env.set j none).set j (some (.v (.str (sgS a))))) s = some (.ok (x a) s)) :
    mLcA i (mgName j) mYes e [j] env s = some (.ok (.lst (l.map x)) s) := by
  have := lcA_text (t := mYes) (fun _ => true) x h0 hl fun a ha => ⟨rfl, fun _ => h a ha⟩
  rwa [List.filter_eq_self.mpr fun _ _ => rfl] at this
theorem bsOf_map {α : Type} (f : α → Bool) : ∀ l : List α, bsOf (l.map fun c => .v (.bl (f c))) = some (l.map f)
  | [] => rfl
  | c :: l => by
    show ((bOf (.v (.bl (f c)))).bind fun x => (bsOf (l.map fun c => .v (.bl (f c)))).map (x :: ·)) = _
    rw [bsOf_map f l]
    rfl
theorem fAll_map {α : Type} (f : α → Bool) (l : List α) (s : GS) : fAll [.lst (l.map fun c => .v (.bl (f c)))] s = some (.v (.bl (l.all f)), s) := by
  show ((bsOf (l.map fun c => .v (.bl (f c)))).map fun bs => (D.v (.bl (bs.all id)), s)) = _
  rw [bsOf_map]
  simp [List.all_map]
theorem fAny_map {α : Type} (f : α → Bool) (l : List α) (s : GS) : fAny [.lst (l.map fun c => .v (.bl (f c)))] s = some (.v (.bl (l.any f)), s) := by
  show ((bsOf (l.map fun c => .v (.bl (f c)))).map fun bs => (D.v (.bl (bs.any id)), s)) = _
  rw [bsOf_map]
  simp [List.any_map]
theorem isi_str {z : Str} {s : GS} : fIsi [.v (.str z), .v (.ty "str")] s = some (.v (.bl true), s) := rfl
theorem fLen_str {z : Str} {s : GS} (h : z.length ≤ 100000) : fLen [.v (.str z)] s = some (.v (.int (z.length : Int)), s) := if_pos h
theorem fIn_signs {c : Nat} {s : GS} : fIn (.v (.str (sgS c))) (.v kc_SIGNS) s = some (.v (.bl (sgn c)), s) := rfl
theorem is_sign_ok {s : GS} {c : Nat} : m_is_sign [.v (.str (sgS c))] s = some (.ok (.v (.bl (sgn c))) s) := by
  refine gc_nil (fnM_eq rfl ?_) rfl
  show bm_is_sign [some (.v (.str (sgS c)))] s = _
  have v : mVar 0 [some (.v (.str (sgS c)))] s = some (.ok (.v (.str (sgS c))) s) := rfl
  have l1 : (sgS c).length = 1 := rfl
  unfold bm_is_sign
  simp only [mRet, mAndV, mCB, mCons, mNil, mC, mOp, v, bn, bnS, isi_str, lft, bOf, fLen_str (show (sgS c).length ≤ 100000 by rw [l1]; decide), l1, fEq_int, fIn_signs]
  rfl
theorem up_to_ok {s : GS} {l : List Nat} {m : Int} (hl : l.length ≤ 100000) : m__is_word_up_to [.v (.str (stL l)), .v (.int m)] s = some (.ok (.v (.bl (upTo (stL l) m))) s) := by
  refine gc_nil (fnM_eq rfl ?_) rfl
  show bm__is_word_up_to [some (.v (.str (stL l))), some (.v (.int m)), none] s = _
  have v0 : mVar 0 [some (.v (.str (stL l))), some (.v (.int m)), none] s = some (.ok (.v (.str (stL l))) s) := rfl
  have v1 : mVar 1 [some (.v (.str (stL l))), some (.v (.int m)), none] s = some (.ok (.v (.int m)) s) := rfl
  have c : mLcA 0 (mgName 2) mYes (mOp fIn (mVar 2) (mC kc_SIGNS)) [2] [some (.v (.str (stL l))), some (.v (.int m)), none] s = some (.ok (.lst (l.map fun c => .v (.bl (sgn c)))) s) :=
    lcA_all (fun c => .v (.bl (sgn c))) rfl hl fun a _ => by
      show mOp fIn (mVar 2) (mC kc_SIGNS) [some (.v (.str (stL l))), some (.v (.int m)), some (.v (.str (sgS a)))] s = _
      have v : mVar 2 [some (.v (.str (stL l))), some (.v (.int m)), some (.v (.str (sgS a)))] s = some (.ok (.v (.str (sgS a))) s) := rfl
      simp only [mOp, v, mC, bn, fIn_signs, lft]
  have lz : (stL l).length ≤ 100000 := by rw [stL_len]; exact hl
  unfold bm__is_word_up_to
  have le : ∀ i j : Int, fLe (.v (.int i)) (.v (.int j)) s = some (.v (.bl (decide (i ≤ j))), s) := fun _ _ => rfl
  have ch : mTest (mChain fLe fLe (mC (.int 1)) (mCB fLen (mCons (mVar 0) mNil)) (mVar 1)) [some (.v (.str (stL l))), some (.v (.int m)), none] s = some (.ok (decide ((1 : Int) ≤ ((stL l).length : Int)) && decide (((stL l).length : Int) ≤ m)) s) := by
    simp only [mTest, mChain, mC, mCB, mCons, mNil, v0, v1, bn, fLen_str lz, lft, le]
    by_cases h : (1 : Int) ≤ ((stL l).length : Int)
    · rw [decide_eq_true h]; rfl
    · rw [decide_eq_false h]; rfl
  have ti : mTest (mCB fIsi (mCons (mVar 0) (mCons (mC (.ty "str")) mNil))) [some (.v (.str (stL l))), some (.v (.int m)), none] s = some (.ok true s) := by
    simp only [mTest, mCB, mCons, mNil, mC, v0, bn, isi_str, lft, bOf]
  have up : upTo (stL l) m = (decide ((1 : Int) ≤ ((stL l).length : Int)) && decide (((stL l).length : Int) ≤ m) && l.all sgn) := by
    unfold upTo
    rw [stL_codes, Bool.and_assoc]
  simp only [mSeq, mIfS, mOr, mNot, ti, ch, bn, bnS, Bool.not_true, Bool.false_eq_true, if_false]
  rw [up]
  cases h : (decide ((1 : Int) ≤ ((stL l).length : Int)) && decide (((stL l).length : Int) ≤ m)) with
  | true => simp only [Bool.not_true, Bool.false_eq_true, if_false, mNext, mRet, mCB, mCons, mNil, c, bn, bnS, fAll_map, lft, Bool.true_and]
  | false => simp only [Bool.not_false, if_true, mRet, mC, bnS, Bool.false_and]
theorem is_fold_word_ok {s : GS} {l : List Nat} (hl : l.length ≤ 100000) : m__is_fold_word [.v (.str (stL l))] s = some (.ok (.v (.bl (upTo (stL l) 3))) s) := by
  refine gc_nil (fnM_eq rfl ?_) rfl
  show bm__is_fold_word [some (.v (.str (stL l)))] s = _
  have v : mVar 0 [some (.v (.str (stL l)))] s = some (.ok (.v (.str (stL l))) s) := rfl
  unfold bm__is_fold_word kc_LONGEST_FOLD
  simp only [mRet, mCall, mCons, mNil, mC, v, bn, bnS, List.append_nil, up_to_ok hl]
theorem fIx_dict {s : GS} {x d : D} {ks : List (Key × D)} {z : Str} (h : dvw s x = some ks) (hv : valD ks (Sum.inr z) = some d) : fIx x (.v (.str z)) s = some (d, s) := by
  have e : (match dvw s x with
    | some ks => match kOf (.v (.str z)) with
      | some k => (valD ks k).map fun d => (d, s)
      | none => none
    | none => match sv s x, iOf (.v (.str z)) with
      | some ds, some i => (atI ds i).map fun d => (d, s)
      | _, _ => none) = some (d, s) := by
    rw [h]
    show (valD ks (Sum.inr z)).map (fun d => (d, s)) = _
    rw [hv]
    rfl
  cases x with
  | v y => cases h
  | _ => exact e
theorem inAny_dict {s : GS} {x : D} {ks : List (Key × D)} {z : Str} (h : dvw s x = some ks) : inAny s (.v (.str z)) x = some (valD ks (Sum.inr z)).isSome := by
  cases x with
  | v y => cases h
  | _ =>
    unfold inAny
    simp only [h]
    rfl
theorem fIn_dict {s : GS} {x : D} {ks : List (Key × D)} {z : Str} (h : dvw s x = some ks) : fIn (.v (.str z)) x s = some (.v (.bl (valD ks (Sum.inr z)).isSome), s) := by
  unfold fIn
  rw [inAny_dict h]
  rfl
theorem fLen_dict {s : GS} {x : D} {ks : List (Key × D)} (h : dvw s x = some ks) : fLen [x] s = some (.v (.int (ks.length : Int)), s) := by
  cases x with
  | v y => cases h
  | _ =>
    unfold fLen
    simp only [h]
theorem fDict_eq {s : GS} {x : D} {ks : List (Key × D)} (h : dvw s x = some ks) : fDict [x] s = some (.dic ks, s) := by
  unfold fDict
  simp only [h]
theorem fSorted_dict {s : GS} {x : D} {ks : List (Key × D)} {zs : List Str} (h : dvw s x = some ks) (hk : keyS ks = some zs) (hl : zs.length < 64) : fSorted [x] s = some (.lst (strsD (srtZ zs)), s) := by
  cases x with
  | v y => cases h
  | _ =>
    unfold fSorted
    simp only [h, hk, hl, if_true]
theorem keyS_map {α : Type} (g : α → D) (l : List (Nat × α)) : keyS (l.map fun p => ((Sum.inr (sgS p.1) : Key), g p.2)) = some (l.map fun p => sgS p.1) := by
  induction l with
  | nil => rfl
  | cons p l ih =>
    show (keyS (l.map fun p => ((Sum.inr (sgS p.1) : Key), g p.2))).map (sgS p.1 :: ·) = _
    rw [ih]
    rfl
/-- the keys in order are the keys -/
theorem mem_srt {z : Str} {zs : List Str} : z ∈ srtZ zs ↔ z ∈ zs := (srtZ_perm zs).mem_iff
/-- a comprehension over any text -/
theorem lc_text {src : ME} {j : Nat} {t : MT} {e : ME} {env : EnvD} {s : GS} {l : List Nat} (c : Nat → Bool) (x : Nat → D) (h0 : src env s = some (.ok (.v (.str (stL l))) s)) (hl : l.length ≤ 100000)
    (h : ∀ a ∈ l, t ((env.set j none).set j (some (.v (.str (sgS a))))) s = some (.ok (c a) s) ∧ (c a = true → e ((env.set j none).set j (some (.v (.str (sgS a))))) s = some (.ok (x a) s))) :
    mLc (mItems src) (mgName j) t e [j] env s = some (.ok (.lst ((l.filter c).map x)) s) := by
  refine mLc_eq (ds := sgsD l) (s := s) ?_ (by rw [sgsD_len]; exact hl) ?_
  · simp only [mItems, bn, h0, itemsOf, stL_codes]
  · have := mCol_pure (g := mgName j) (t := t) (e := e) (env := wipeD env [j]) (s := s) (fun d => match sOf d with | some z => (match z.cps.toList with | a :: _ => c a | [] => false) | none => false) (fun d => match sOf d with | some z => (match z.cps.toList with | a :: _ => x a | [] => .v .non) | none => .v .non) (ds := sgsD l) fun d hd => by
      obtain ⟨a, ha, rfl⟩ := memsgs hd
      obtain ⟨h1, h2⟩ := h a ha
      exact ⟨_, rfl, h1, h2⟩
    rw [this, filter_sgsD, map_sgsD]
    rfl
theorem lc_all {src : ME} {j : Nat} {e : ME} {env : EnvD} {s : GS} {l : List Nat} (x : Nat → D) (h0 : src env s = some (.ok (.v (.str (stL l))) s)) (hl : l.length ≤ 100000)
    (h : ∀ a ∈ l, e ((env.set j none).set j (some (.v (.str (sgS a))))) s = some (.ok (x a) s)) :
    mLc (mItems src) (mgName j) mYes e [j] env s = some (.ok (.lst (l.map x)) s) := by
  have := lc_text (t := mYes) (fun _ => true) x h0 hl fun a ha => ⟨rfl, fun _ => h a ha⟩
  rwa [List.filter_eq_self.mpr fun _ _ => rfl] at this
theorem strsD_get {zs : List Str} {i : Nat} {d : D} (h : (strsD zs)[i]? = some d) : ∃ z ∈ zs, d = .v (.str z) := by
  obtain ⟨z, hz, e⟩ := List.mem_map.mp (List.mem_of_getElem? h)
  exact ⟨z, hz, e.symm⟩
/-- the folds pass -/
theorem check_folds_ok {s : GS} {x : D} {fs : Fds} {ms : Mks} (ro : RuleOk fs ms) (hx : dvw s x = some (dF fs)) : m__check_folds [x] s = some (.ok (.v .non) s) := by
  have srt : fSorted [x] s = some (.lst (strsD (srtZ (fs.map fun p => sgS p.1))), s) := fSorted_dict hx (keyS_map (fun w => D.v (.str (stL w))) fs) (by rw [List.length_map]; have := ro.fl; omega)
  have lp := mLoop_n (g := mgName 1) (b := (mSeq (mIfS (mNot (mTest (mCall m_is_sign [] (mCons (mVar 1) mNil)))) (mRaise "NoSign" ["sign"] (mCons (mVar 1) mNil)) mNext)
  (mSeq (mIfS (mNot (mTest (mCall m__is_fold_word [] (mCons (mOp fIx (mVar 0) (mVar 1)) mNil)))) (mRaise "NoFold" ["sign"] (mCons (mVar 1) mNil)) mNext)
  (mIfS (mTest (mCB fAny (mCons (mLc (mItems (mOp fIx (mVar 0) (mVar 1))) (mgName 2) mYes (mOp fIn (mVar 2) (mVar 0)) [2]) mNil))) (mRaise "NoFold" ["sign"] (mCons (mVar 1) mNil)) mNext))))
    (fun _ e t => t = s ∧ ∃ o1, e = [some x, o1, none]) (strsD (srtZ (fs.map fun p => sgS p.1))) 0 [some x, none, none] s ⟨rfl, none, rfl⟩ fun i d e t hi hp => by
      obtain ⟨rfl, o1, rfl⟩ := hp
      obtain ⟨z, hz, rfl⟩ := strsD_get hi
      obtain ⟨⟨c, w⟩, hp, rfl⟩ := List.mem_map.mp (mem_srt.mp hz)
      have sg := ro.fk _ hp
      obtain ⟨wd, wn⟩ := ro.fw _ hp
      have le : w.length ≤ 3 := wd.le
      have hv : valD (dF fs) (Sum.inr (sgS c)) = some (.v (.str (stL w))) := by rw [valD_dF, lk_of_mem ro.fn hp]; rfl
      have ix := fIx_dict hx hv
      have v0 : mVar 0 [some x, some (.v (.str (sgS c))), none] t = some (.ok x t) := by
        cases x with
        | exn a b => cases hx
        | _ => rfl
      have v1 : mVar 1 [some x, some (.v (.str (sgS c))), none] t = some (.ok (.v (.str (sgS c))) t) := rfl
      have ixm : mOp fIx (mVar 0) (mVar 1) [some x, some (.v (.str (sgS c))), none] t = some (.ok (.v (.str (stL w))) t) := by simp only [mOp, v0, v1, bn, ix, lft]
      have up3 : upTo (stL w) 3 = true := (upTo_iff (n := 3)).mpr wd
      have an : mLc (mItems (mOp fIx (mVar 0) (mVar 1))) (mgName 2) mYes (mOp fIn (mVar 2) (mVar 0)) [2] [some x, some (.v (.str (sgS c))), none] t = some (.ok (.lst (w.map fun _ => .v (.bl false))) t) :=
        lc_all _ ixm (by show w.length ≤ _; omega) fun a ha => by
          show mOp fIn (mVar 2) (mVar 0) [some x, some (.v (.str (sgS c))), some (.v (.str (sgS a)))] t = _
          have v2 : mVar 2 [some x, some (.v (.str (sgS c))), some (.v (.str (sgS a)))] t = some (.ok (.v (.str (sgS a))) t) := rfl
          have v0' : mVar 0 [some x, some (.v (.str (sgS c))), some (.v (.str (sgS a)))] t = some (.ok x t) := v0
          simp only [mOp, v2, v0', bn, fIn_dict hx, valD_dF, wn a ha, Option.map_none, Option.isSome_none, lft]
      refine ⟨_, _, [some x, some (.v (.str (sgS c))), none], t, rfl, .inl ?_, rfl, _, rfl⟩
      show mSeq _ _ [some x, some (.v (.str (sgS c))), none] t = _
      have lw : w.length ≤ 100000 := by show w.length ≤ _; omega
      simp only [mSeq, mIfS, mNot, mTest, mCall, mCons, mNil, v1, ixm, bn, bnS, List.append_nil, is_sign_ok, sg, bOf, Bool.not_true, Bool.false_eq_true, if_false, mNext, is_fold_word_ok lw, up3, mCB, an, fAny_map (fun _ => false), lft]
      have : (w.any fun _ => false) = false := by simp
      rw [this]
      rfl
  obtain ⟨e', t', l1, rfl, _⟩ := lp
  refine gc_nil ?_ rfl
  show (match bm__check_folds [some x, none, none] t' with | some (.rt d s) => some (Re.ok d s) | some (.nx _ s) => some (.ok (.v .non) s) | some (.ex c fs _ s) => some (.ex c fs s) | _ => none) = _
  have v0 : mVar 0 [some x, none, none] t' = some (.ok x t') := by
    cases x with
    | exn a b => cases hx
    | _ => rfl
  have it : mItems (mCB fSorted (mCons (mVar 0) mNil)) [some x, none, none] t' = some (.ok (strsD (srtZ (fs.map fun p => sgS p.1))) t') := by
    simp only [mItems, mCB, mCons, mNil, v0, bn, srt, lft, itemsOf]
  unfold bm__check_folds
  rw [mFor_eq it l1]
theorem mVar_of {x : D} {i : Nat} {env : EnvD} {s : GS} (h : env[i]? = some (some x)) (nx : ∀ c fs, x ≠ .exn c fs) : mVar i env s = some (.ok x s) := by
  unfold mVar
  rw [h]
  cases x with
  | exn c fs => exact absurd rfl (nx c fs)
  | _ => rfl
theorem no_exn {s : GS} {x : D} {ks : List (Key × D)} (h : dvw s x = some ks) : ∀ c fs, x ≠ .exn c fs := by
  rintro c fs rfl
  cases h
theorem is_number_int {i : Int} {s : GS} : m_is_number [.v (.int i)] s = some (.ok (.v (.bl true)) s) := gc_nil (fnM_eq rfl rfl) rfl
theorem clB3 {i : Int} {s : GS} (h : i = 1 ∨ i = 2 ∨ i = 3) : m__is_mark_class [.v (.int i)] s = some (.ok (.v (.bl true)) s) := by
  refine gc_nil (fnM_eq rfl ?_) rfl
  show bm__is_mark_class [some (.v (.int i))] s = _
  have v : mVar 0 [some (.v (.int i))] s = some (.ok (.v (.int i)) s) := rfl
  have e : fIn (.v (.int i)) kc_MARK_CLASSES s = some (.v (.bl true), s) := by
    rcases h with rfl | rfl | rfl <;> rfl
  unfold bm__is_mark_class
  simp only [mRet, mAndV, mCall, mCons, mNil, v, bn, bnS, List.append_nil, is_number_int, bOf, mOp, mKon, e, lft]
/-- the marks pass -/
theorem check_marks_ok {s : GS} {x y : D} {fs : Fds} {ms : Mks} (ro : RuleOk fs ms) (hx : dvw s x = some (dM ms)) (hy : dvw s y = some (dF fs)) : m__check_marks [x, y] s = some (.ok (.v .non) s) := by
  have nx := no_exn hx
  have ny := no_exn hy
  have srt : fSorted [x] s = some (.lst (strsD (srtZ (ms.map fun p => sgS p.1))), s) := fSorted_dict hx (keyS_map (fun w => D.v (.int w)) ms) (by rw [List.length_map]; have := ro.ml; omega)
  have lp := mLoop_n (g := mgName 2) (b := (mSeq (mIfS (mNot (mTest (mCall m_is_sign [] (mCons (mVar 2) mNil)))) (mRaise "NoSign" ["sign"] (mCons (mVar 2) mNil)) mNext)
  (mIfS (mOr (mNot (mTest (mCall m__is_mark_class [] (mCons (mOp fIx (mVar 0) (mVar 2)) mNil)))) (mTest (mOp fIn (mVar 2) (mVar 1)))) (mRaise "NoMark" ["sign"] (mCons (mVar 2) mNil)) mNext)))
    (fun _ e t => t = s ∧ ∃ o1, e = [some x, some y, o1]) (strsD (srtZ (ms.map fun p => sgS p.1))) 0 [some x, some y, none] s ⟨rfl, none, rfl⟩ fun i d e t hi hp => by
      obtain ⟨rfl, o1, rfl⟩ := hp
      obtain ⟨z, hz, rfl⟩ := strsD_get hi
      obtain ⟨⟨c, k⟩, hp, rfl⟩ := List.mem_map.mp (mem_srt.mp hz)
      obtain ⟨sg, nf⟩ := ro.mg _ hp
      have nf : lk fs c = none := nf
      have sg : sgn c = true := sg
      have cl := ro.mc _ hp
      have hv : valD (dM ms) (Sum.inr (sgS c)) = some (.v (.int k)) := by rw [valD_dM, lk_of_mem ro.mn hp]; rfl
      have ix := fIx_dict hx hv
      have v0 : mVar 0 [some x, some y, some (.v (.str (sgS c)))] t = some (.ok x t) := mVar_of rfl nx
      have v1 : mVar 1 [some x, some y, some (.v (.str (sgS c)))] t = some (.ok y t) := mVar_of rfl ny
      have v2 : mVar 2 [some x, some y, some (.v (.str (sgS c)))] t = some (.ok (.v (.str (sgS c))) t) := rfl
      have ixm : mOp fIx (mVar 0) (mVar 2) [some x, some y, some (.v (.str (sgS c)))] t = some (.ok (.v (.int k)) t) := by simp only [mOp, v0, v2, bn, ix, lft]
      have inm : mOp fIn (mVar 2) (mVar 1) [some x, some y, some (.v (.str (sgS c)))] t = some (.ok (.v (.bl false)) t) := by simp only [mOp, v1, v2, bn, fIn_dict hy, valD_dF, nf, Option.map_none, Option.isSome_none, lft]
      refine ⟨_, _, [some x, some y, some (.v (.str (sgS c)))], t, rfl, .inl ?_, rfl, _, rfl⟩
      show mSeq _ _ [some x, some y, some (.v (.str (sgS c)))] t = _
      simp only [mSeq, mIfS, mNot, mOr, mTest, mCall, mCons, mNil, v2, ixm, inm, bn, bnS, List.append_nil, is_sign_ok, sg, bOf, Bool.not_true, Bool.false_eq_true, if_false, mNext, clB3 cl]
  obtain ⟨e', t', l1, rfl, _⟩ := lp
  refine gc_nil ?_ rfl
  show (match bm__check_marks [some x, some y, none] t' with | some (.rt d s) => some (Re.ok d s) | some (.nx _ s) => some (.ok (.v .non) s) | some (.ex c fs _ s) => some (.ex c fs s) | _ => none) = _
  have v0 : mVar 0 [some x, some y, none] t' = some (.ok x t') := mVar_of rfl nx
  have it : mItems (mCB fSorted (mCons (mVar 0) mNil)) [some x, some y, none] t' = some (.ok (strsD (srtZ (ms.map fun p => sgS p.1))) t') := by
    simp only [mItems, mCB, mCons, mNil, v0, bn, srt, lft, itemsOf]
  unfold bm__check_marks
  rw [mFor_eq it l1]
theorem check_sizes_ok {s : GS} {x y : D} {fs : Fds} {ms : Mks} (ro : RuleOk fs ms) (hx : dvw s x = some (dF fs)) (hy : dvw s y = some (dM ms)) : m__check_sizes [x, y] s = some (.ok (.v .non) s) := by
  have nx := no_exn hx
  have ny := no_exn hy
  have fl := ro.fl
  have ml := ro.ml
  refine gc_nil ?_ rfl
  show (match bm__check_sizes [some x, some y] s with | some (.rt d s) => some (Re.ok d s) | some (.nx _ s) => some (.ok (.v .non) s) | some (.ex c fs _ s) => some (.ex c fs s) | _ => none) = _
  have v0 : mVar 0 [some x, some y] s = some (.ok x s) := mVar_of rfl nx
  have v1 : mVar 1 [some x, some y] s = some (.ok y s) := mVar_of rfl ny
  have g : ∀ i j : Int, fGt (.v (.int i)) (.v (.int j)) s = some (.v (.bl (decide (j < i))), s) := fun _ _ => rfl
  have g1 : decide ((40 : Int) < ((dF fs).length : Int)) = false := decide_eq_false (by rw [dF_len]; omega)
  have g2 : decide ((8 : Int) < ((dM ms).length : Int)) = false := decide_eq_false (by rw [dM_len]; omega)
  unfold bm__check_sizes kc_MOST_FOLDS kc_MOST_MARKS
  simp only [mSeq, mIfS, mTest, mOp, mCB, mCons, mNil, mC, v0, v1, bn, bnS, fLen_dict hx, fLen_dict hy, lft, g, g1, g2, bOf, Bool.false_eq_true, if_false, mNext]
/-- a table as data -/
def tbF (fs : Fds) (ms : Mks) : List (Str × D) := [("_folds", .dic (dF fs)), ("_marks", .dic (dM ms))]
def tbD (fs : Fds) (ms : Mks) : D := .ins "Table" (tbF fs ms)
theorem dvw_app {s t : GS} {x : D} {ks : List (Key × D)} (h : dvw s x = some ks) : dvw (s ++ t) x = some ks := by
  cases x with
  | obj n =>
    unfold dvw at h ⊢
    dsimp only at h ⊢
    cases e : s[n]? with
    | none => rw [e] at h; cases h
    | some c =>
      rw [e] at h
      rw [List.getElem?_append_left (List.getElem?_eq_some_iff.mp e).1, e]
      exact h
  | dic _ => exact h
  | _ => cases h
theorem celln {s : GS} {x : Cell} : (s ++ [x])[s.length]? = some x := by rw [List.getElem?_append_right (Nat.le_refl _), Nat.sub_self]; rfl
theorem csetn {s : GS} {x z : Cell} : (s ++ [x]).set s.length z = s ++ [z] := by rw [List.set_append_right _ _ (Nat.le_refl _), Nat.sub_self]; rfl
theorem init_ok {s : GS} {x y : D} {fs : Fds} {ms : Mks} (ro : RuleOk fs ms) (hx : dvw s x = some (dF fs)) (hy : dvw s y = some (dM ms)) : m_Table___init__ [.obj s.length, x, y] (s ++ [.ins "Table" []]) = some (.ok (.v .non) (s ++ [.ins "Table" (tbF fs ms)])) := by
  have nx := no_exn hx
  have ny := no_exn hy
  refine gc_nil ?_ (by rw [List.length_append, List.length_append]; rfl)
  show (match bm_Table___init__ [some (.obj s.length), some x, some y] (s ++ [.ins "Table" []]) with | some (.rt d s) => some (Re.ok d s) | some (.nx _ s) => some (.ok (.v .non) s) | some (.ex c fs _ s) => some (.ex c fs s) | _ => none) = _
  have v0 : ∀ s', mVar 0 [some (.obj s.length), some x, some y] s' = some (.ok (.obj s.length) s') := fun _ => rfl
  have v1 : ∀ s', mVar 1 [some (.obj s.length), some x, some y] s' = some (.ok x s') := fun _ => mVar_of rfl nx
  have v2 : ∀ s', mVar 2 [some (.obj s.length), some x, some y] s' = some (.ok y s') := fun _ => mVar_of rfl ny
  unfold bm_Table___init__
  have d1 : ∀ c : Cell, fDict [x] (s ++ [c]) = some (.dic (dF fs), s ++ [c]) := fun c => fDict_eq (dvw_app hx)
  have d2 : ∀ c : Cell, fDict [y] (s ++ [c]) = some (.dic (dM ms), s ++ [c]) := fun c => fDict_eq (dvw_app hy)
  have s1 : mSFld ["Table"] "_folds" (mVar 0) (mCB fDict (mCons (mVar 1) mNil)) [some (.obj s.length), some x, some y] (s ++ [.ins "Table" []]) = some (.nx [some (.obj s.length), some x, some y] (s ++ [.ins "Table" [("_folds", .dic (dF fs))]])) := by
    simp only [mSFld, mCB, mCons, mNil, v1, v0, bn, bnS, d1, lft, celln]
    rw [if_pos ⟨List.mem_cons_self .., by decide⟩, csetn]
    rfl
  have s2 : mSFld ["Speller", "Table"] "_marks" (mVar 0) (mCB fDict (mCons (mVar 2) mNil)) [some (.obj s.length), some x, some y] (s ++ [.ins "Table" [("_folds", .dic (dF fs))]]) = some (.nx [some (.obj s.length), some x, some y] (s ++ [.ins "Table" (tbF fs ms)])) := by
    simp only [mSFld, mCB, mCons, mNil, v2, v0, bn, bnS, d2, lft, celln]
    rw [if_pos ⟨List.mem_cons_of_mem _ (List.mem_cons_self ..), by show 1 < 1000; decide⟩, csetn]
    rfl
  simp only [mSeq, mDrop, mCall, mCons, mNil, v0, v1, v2, bn, bnS, List.append_nil, check_folds_ok ro (dvw_app hx), check_marks_ok ro (dvw_app hy) (dvw_app hx), check_sizes_ok ro (dvw_app hx) (dvw_app hy), s1, s2]
/-- Table(x, y) -/
theorem make_ok {A : MA} {env : EnvD} {s s' : GS} {x y : D} {fs : Fds} {ms : Mks} (ro : RuleOk fs ms) (hA : A env s = some (.ok [x, y] s')) (hx : dvw s' x = some (dF fs)) (hy : dvw s' y = some (dM ms)) :
    mRest (mMake "Table" m_Table___init__ [] A) env s = some (.ok (tbD fs ms) (s' ++ [.free])) := by
  have e : mMake "Table" m_Table___init__ [] A env s = some (.ok (.obj s'.length) (s' ++ [.ins "Table" (tbF fs ms)])) := by
    unfold mMake
    rw [hA]
    show bn (m_Table___init__ (.obj s'.length :: ([x, y] ++ [])) (s' ++ [.ins "Table" []])) _ = _
    rw [List.append_nil, init_ok ro hx hy]
    rfl
  unfold mRest
  rw [e]
  simp only [bn, frz, celln, restD, Option.map_some, csetn, lft]
  rfl
end Nm
set_option Elab.async false
set_option linter.all false
set_option maxRecDepth 100000
set_option maxHeartbeats 4000000
set_option Elab.async false
set_option linter.all false
set_option maxRecDepth 100000
set_option maxHeartbeats 4000000
set_option Elab.async false
set_option linter.all false
set_option maxRecDepth 100000
set_option maxHeartbeats 4000000
namespace Nm
open PySem PySem.Spec PyProof.Rows L2 Evl
section
variable {s : GS} {l : List Nat} {i n : Nat}
theorem fLen_st (h : l.length ≤ 100000) : fLen [.v (.str (stL l))] s = some (.v (.int (l.length : Int)), s) := by
  rw [fLen_str (by rw [stL_len]; exact h), stL_len]
end
/-- a list of texts, each of a kind -/
def TxD (P : List Nat → Prop) (x : D) : Prop := ∃ y, x = .v (.str (stL y)) ∧ P y
end Nm
set_option Elab.async false
set_option linter.all false
set_option maxRecDepth 100000
set_option maxHeartbeats 4000000
namespace Nm
open PySem PySem.Spec PyProof.Rows L2 Evl
section
variable {s : GS} {fs : Fds} {ms : Mks} {l : List Nat}
theorem TxD.imp {P Q : List Nat → Prop} {x : D} (h : TxD P x) (k : ∀ y, P y → Q y) : TxD Q x := by
  obtain ⟨y, e, hy⟩ := h
  exact ⟨y, e, k y hy⟩
end
end Nm
set_option Elab.async false
set_option linter.all false
set_option maxRecDepth 100000
set_option maxHeartbeats 4000000
namespace Nm
open PySem PySem.Spec PyProof.Rows L2 Evl
mutual
theorem bdD_mono {n m : Nat} (h : n ≤ m) : ∀ d : D, bdD n d = true → bdD m d = true
  | .v _, _ => rfl
  | .lst ds, b => bdDs_mono h ds b
  | .lsk ds, b => bdDs_mono h ds b
  | .tup ds, b => bdDs_mono h ds b
  | .tpk ds, b => bdDs_mono h ds b
  | .dic kvs, b => bdKs_mono h kvs b
  | .dit kvs, b => bdTs_mono h kvs b
  | .obj k, b => decide_eq_true (Nat.lt_of_lt_of_le (of_decide_eq_true (show decide (k < n) = true from b)) h)
  | .ins _ fs, b => bdFs_mono h fs b
  | .cls _, _ => rfl
  | .exn _ fs, b => bdFs_mono h fs b
  | .exv _ fs, b => bdFs_mono h fs b
theorem bdDs_mono {n m : Nat} (h : n ≤ m) : ∀ ds : List D, bdDs n ds = true → bdDs m ds = true
  | [], _ => rfl
  | d :: r, b => by
    obtain ⟨b1, b2⟩ := Bool.and_eq_true_iff.mp (show (bdD n d && bdDs n r) = true from b)
    exact Bool.and_eq_true_iff.mpr ⟨bdD_mono h d b1, bdDs_mono h r b2⟩
theorem bdKs_mono {n m : Nat} (h : n ≤ m) : ∀ ds : List (Key × D), bdKs n ds = true → bdKs m ds = true
  | [], _ => rfl
  | (_, d) :: r, b => by
    obtain ⟨b1, b2⟩ := Bool.and_eq_true_iff.mp (show (bdD n d && bdKs n r) = true from b)
    exact Bool.and_eq_true_iff.mpr ⟨bdD_mono h d b1, bdKs_mono h r b2⟩
theorem bdTs_mono {n m : Nat} (h : n ≤ m) : ∀ ds : List (List Key × D), bdTs n ds = true → bdTs m ds = true
  | [], _ => rfl
  | (_, d) :: r, b => by
    obtain ⟨b1, b2⟩ := Bool.and_eq_true_iff.mp (show (bdD n d && bdTs n r) = true from b)
    exact Bool.and_eq_true_iff.mpr ⟨bdD_mono h d b1, bdTs_mono h r b2⟩
theorem bdFs_mono {n m : Nat} (h : n ≤ m) : ∀ ds : List (Str × D), bdFs n ds = true → bdFs m ds = true
  | [], _ => rfl
  | (_, d) :: r, b => by
    obtain ⟨b1, b2⟩ := Bool.and_eq_true_iff.mp (show (bdD n d && bdFs n r) = true from b)
    exact Bool.and_eq_true_iff.mpr ⟨bdD_mono h d b1, bdFs_mono h r b2⟩
end
theorem bdC_mono {n m : Nat} (h : n ≤ m) (c : Cell) (b : bdC n c = true) : bdC m c = true := by
  cases c with
  | lst ds => exact bdDs_mono h ds b
  | dic ds => exact bdKs_mono h ds b
  | ins c fs => exact bdFs_mono h fs b
  | free => rfl
  | hdl ds => exact bdDs_mono h ds b
  | hdd ds => exact bdKs_mono h ds b
  | dit ds => exact bdTs_mono h ds b
theorem bdS_mono {n m : Nat} {s : GS} (h : n ≤ m) (b : bdS n s = true) : bdS m s = true := by
  unfold bdS at b ⊢
  rw [List.all_eq_true] at b ⊢
  exact fun c hc => bdC_mono h c (b c hc)
theorem Wf.app {s : GS} (w : Wf s) {c : Cell} (hc : bdC (s.length + 1) c = true) : Wf (s ++ [c]) := by
  unfold Wf bdS at *
  rw [List.length_append, List.length_singleton, List.all_append, Bool.and_eq_true]
  refine ⟨bdS_mono (Nat.le_succ _) w, ?_⟩
  rw [List.all_cons, hc]
  rfl
theorem fLen_cell {s : GS} {n : Nat} {ds : List D} (hc : s[n]? = some (.lst ds)) : fLen [.obj n] s = some (.v (.int (ds.length : Int)), s) := by
  unfold fLen
  simp only [dvw, hc, sv, lvQ, lvX]
end Nm
set_option Elab.async false
set_option linter.all false
set_option maxRecDepth 100000
set_option maxHeartbeats 4000000
namespace Nm
open PySem PySem.Spec PyProof.Rows L2 Evl
theorem rng_map (n : Nat) : rng 0 n = (List.range n).map fun (i : Nat) => D.v (.int (i : Int)) := by
  unfold rng
  exact List.map_congr_left fun i _ => by rw [Int.zero_add]
def txD (l : List (List Nat)) : List D := l.map fun y => .v (.str (stL y))
section
variable {s : GS} {fs : Fds} {ms : Mks} {l y : List Nat}
theorem txD_len (x : List (List Nat)) : (txD x).length = x.length := by unfold txD; rw [List.length_map]
end
end Nm
set_option Elab.async false
set_option linter.all false
set_option maxRecDepth 100000
set_option maxHeartbeats 4000000
namespace Nm
open PySem PySem.Spec PyProof.Rows L2 Evl
/-- a list that is put together anew now and then: its cell moves -/
structure Bld (s : GS) (acc : List D) (n : Nat) (st : GS) : Prop where
  ex : ∃ tl, st = s ++ (tl ++ [.lst acc]) ∧ n = s.length + tl.length
section
variable {s st : GS} {acc : List D} {n : Nat}
theorem Bld.start : Bld s acc s.length (s ++ [.lst acc]) := ⟨[], rfl, rfl⟩
theorem Bld.get (h : Bld s acc n st) : st[n]? = some (.lst acc) := by
  obtain ⟨tl, rfl, rfl⟩ := h.ex
  rw [List.getElem?_append_right (by omega), List.getElem?_append_right (by omega)]
  simp
theorem Bld.set (h : Bld s acc n st) (acc' : List D) : Bld s acc' n (st.set n (.lst acc')) := by
  obtain ⟨tl, rfl, rfl⟩ := h.ex
  refine ⟨tl, ?_, rfl⟩
  rw [List.set_append_right _ _ (by omega), List.set_append_right _ _ (by omega)]
  simp
theorem Bld.new (h : Bld s acc n st) (acc' : List D) : Bld s acc' st.length (st ++ [.lst acc']) := by
  obtain ⟨tl, rfl, rfl⟩ := h.ex
  exact ⟨tl ++ [.lst acc], by simp, by simp⟩
theorem Bld.rest (h : Bld s acc n st) : ∃ tl, frz st (.obj n) = some (.lst acc, s ++ tl) := by
  have g := h.get
  obtain ⟨tl, rfl, rfl⟩ := h.ex
  refine ⟨tl ++ [.free], ?_⟩
  simp only [frz, g, restD, Option.map_some]
  rw [List.set_append_right _ _ (by omega), List.set_append_right _ _ (by omega)]
  simp
theorem Bld.app {a : ME} {r : MA} {env : EnvD} {y : D} (h : Bld s acc n st) (ha : a env st = some (.ok (.obj n) st)) (hr : r env st = some (.ok [y] st)) (hl : acc.length < 100000) : ∃ st', mApp a r env st = some (.ok (.v .non) st') ∧ Bld s (acc ++ [y]) n st' := by
  refine ⟨_, ?_, h.set _⟩
  unfold mApp
  simp only [ha, bn, h.get, hr, hl, if_true]
end
end Nm
set_option Elab.async false
set_option linter.all false
set_option maxRecDepth 100000
set_option maxHeartbeats 4000000
namespace Nm
open PySem PySem.Spec PyProof.Rows L2 Evl
section
variable (κ : List Nat → List Nat)
/-- key, words, cell -/
abbrev G3 := List (List Nat × List (List Nat) × Nat)
def put3 (g : G3) (w : List Nat) (n : Nat) : G3 := match g.find? fun p => decide (p.1 = κ w) with
  | some _ => g.map fun p => if p.1 = κ w then (p.1, p.2.1 ++ [w], p.2.2) else p
  | none => g ++ [(κ w, [w], n)]
def grp3 : G3 → Nat → List (List Nat) → G3
  | g, _, [] => g
  | g, n, w :: r => grp3 (put3 κ g w n) (n + 1) r
def wsOf (g : G3) : List (List (List Nat)) := g.map (·.2.1)
end
theorem nd_inj {α β : Type} {f : α → β} : ∀ {l : List α}, (l.map f).Nodup → ∀ {p q : α}, p ∈ l → q ∈ l → f p = f q → p = q
  | x :: r, h, p, q, hp, hq, e => by
    rw [List.map_cons, List.nodup_cons] at h
    rcases List.mem_cons.mp hp with e1 | hp1 <;> rcases List.mem_cons.mp hq with e2 | hq1
    · rw [e1, e2]
    · exact absurd (List.mem_map.mpr ⟨q, hq1, by rw [← e, e1]⟩) h.1
    · exact absurd (List.mem_map.mpr ⟨p, hp1, by rw [e, e2]⟩) h.1
    · exact nd_inj h.2 hp1 hq1 e
def objD (g : G3) : List D := g.map fun p => .obj p.2.2
def dkG (g : G3) : List (Key × D) := g.map fun p => (Sum.inr (stL p.1), .obj p.2.2)
theorem valD_dkG (k : List Nat) : ∀ g : G3, valD (dkG g) (Sum.inr (stL k)) = (g.find? fun p => decide (p.1 = k)).map fun p => .obj p.2.2
  | [] => rfl
  | p :: r => by
    have ih := valD_dkG k r
    unfold valD dkG at ih ⊢
    rw [List.map_cons, List.find?_cons, List.find?_cons]
    by_cases h : p.1 = k
    · simp [h]
    · have h2 : (Sum.inr (stL p.1) : Key) ≠ Sum.inr (stL k) := fun e => h (stL_inj (Sum.inr.inj e))
      simp only [h, h2, decide_false]
      exact ih
theorem bdKs_dkG {n : Nat} : ∀ {g : G3}, (∀ p ∈ g, p.2.2 < n) → bdKs n (dkG g) = true
  | [], _ => rfl
  | p :: r, h => by
    show (decide (p.2.2 < n) && bdKs n (dkG r)) = true
    rw [bdKs_dkG (g := r) fun q hq => h q (List.mem_cons_of_mem _ hq), decide_eq_true (h p (List.mem_cons_self ..))]
    rfl
theorem bdDs_objD {n : Nat} : ∀ {g : G3}, (∀ p ∈ g, p.2.2 < n) → bdDs n (objD g) = true
  | [], _ => rfl
  | p :: r, h => by
    show (decide (p.2.2 < n) && bdDs n (objD r)) = true
    rw [bdDs_objD (g := r) fun q hq => h q (List.mem_cons_of_mem _ hq), decide_eq_true (h p (List.mem_cons_self ..))]
    rfl
theorem txD_bd {n : Nat} (ws : List (List Nat)) : bdC n (.lst (txD ws)) = true := bdDs_flat (by
  unfold txD
  rw [List.all_map, List.all_eq_true]
  exact fun _ _ => rfl)
structure Bl (s : GS) (i : Nat) (g : G3) (t : GS) : Prop where
  dic : t[s.length]? = some (.dic (dkG g))
  cel : ∀ p ∈ g, t[p.2.2]? = some (.lst (txD p.2.1)) ∧ s.length < p.2.2
  nd : (g.map (·.2.2)).Nodup
  kd : (g.map (·.1)).Nodup
  old : ∀ j, j < s.length → t[j]? = s[j]?
  len : t.length = s.length + 1 + i
  wf : Wf s → Wf t
  gl : g.length ≤ i
  wl : ∀ p ∈ g, p.2.1.length ≤ i
theorem Bl.lt {s t : GS} {i : Nat} {g : G3} (b : Bl s i g t) {p : List Nat × List (List Nat) × Nat} (h : p ∈ g) : p.2.2 < t.length := (List.getElem?_eq_some_iff.mp (b.cel p h).1).1
theorem Bl.start (s : GS) : Bl s 0 [] (s ++ [Cell.dic []]) where
  dic := celln
  cel := fun _ h => nomatch h
  nd := List.nodup_nil
  kd := List.nodup_nil
  old := fun j hj => List.getElem?_append_left hj
  len := by rw [List.length_append]; rfl
  wf := fun w => w.app rfl
  gl := Nat.le_refl _
  wl := fun _ h => nomatch h
theorem Bl.turn {κ : List Nat → List Nat} {s t : GS} {i : Nat} {g : G3} (b : Bl s i g t) {mk : ME} {env : EnvD} {w : List Nat} (hi : i < 50000) (h2 : env[2]? = some (some (.obj s.length))) (h3 : env[3]? = some (some (.v (.str (stL w))))) (hk : mk env t = some (.ok (.v (.str (stL (κ w)))) t)) :
    ∃ t', mDrop (mApp (mSetd (mVar 2) mk (mLstC mNil)) (mCons (mVar 3) mNil)) env t = some (.nx env t') ∧ Bl s (i + 1) (put3 κ g w (s.length + 1 + i)) t' := by
  have d1 : (t ++ [Cell.lst []])[s.length]? = some (.dic (dkG g)) := by rw [List.getElem?_append_left (by rw [b.len]; omega)]; exact b.dic
  have v3 : ∀ u, mVar 3 env u = some (.ok (.v (.str (stL w))) u) := fun u => mVar_of h3 (fun _ _ z => nomatch z)
  have v2 : ∀ u, mVar 2 env u = some (.ok (.obj s.length) u) := fun u => mVar_of h2 (fun _ _ z => nomatch z)
  have kl : (dkG g).length < 100000 := by unfold dkG; rw [List.length_map]; have := b.gl; omega
  have vd := valD_dkG (κ w) g
  have w1 : Wf s → Wf (t ++ [Cell.lst []]) := fun z => (b.wf z).app rfl
  cases f : g.find? fun p => decide (p.1 = κ w) with
  | some p0 =>
    have m0 := List.mem_of_find?_eq_some f
    have k0 : p0.1 = κ w := by simpa using List.find?_some f
    rw [f] at vd
    have c0 : (t ++ [Cell.lst []])[p0.2.2]? = some (.lst (txD p0.2.1)) := by rw [List.getElem?_append_left (b.lt m0)]; exact (b.cel _ m0).1
    have sd : mSetd (mVar 2) mk (mLstC mNil) env t = some (.ok (.obj p0.2.2) (t ++ [Cell.lst []])) := by
      unfold mSetd
      simp only [bn, v2, b.dic, hk, mLstC, mNil, List.length_nil, Nat.zero_le, if_true, kOf, d1, kl]
      rw [vd]
      rfl
    have dl : (txD p0.2.1).length < 100000 := by rw [txD_len]; have := b.wl _ m0; omega
    refine ⟨(t ++ [Cell.lst []]).set p0.2.2 (.lst (txD (p0.2.1 ++ [w]))), ?_, ?_⟩
    · unfold mDrop mApp
      simp only [bnS, bn, sd, c0, mCons, mNil, v3, dl, if_true]
      unfold txD
      rw [List.map_append]
      rfl
    · have pe : put3 κ g w (s.length + 1 + i) = g.map fun p => if p.1 = κ w then (p.1, p.2.1 ++ [w], p.2.2) else p := by unfold put3; rw [f]
      rw [pe]
      have s0 := (b.cel _ m0).2
      have e3 : (g.map fun p => if p.1 = κ w then (p.1, p.2.1 ++ [w], p.2.2) else p).map (·.2.2) = g.map (·.2.2) := by
        rw [List.map_map]
        refine List.map_congr_left fun p _ => ?_
        show (if p.1 = κ w then _ else p).2.2 = _
        by_cases hp : p.1 = κ w <;> simp [hp]
      have e1 : (g.map fun p => if p.1 = κ w then (p.1, p.2.1 ++ [w], p.2.2) else p).map (·.1) = g.map (·.1) := by
        rw [List.map_map]
        refine List.map_congr_left fun p _ => ?_
        show (if p.1 = κ w then _ else p).1 = _
        by_cases hp : p.1 = κ w <;> simp [hp]
      have ek : dkG (g.map fun p => if p.1 = κ w then (p.1, p.2.1 ++ [w], p.2.2) else p) = dkG g := by
        unfold dkG
        rw [List.map_map]
        refine List.map_congr_left fun p _ => ?_
        show (Sum.inr (stL (if p.1 = κ w then _ else p).1), D.obj (if p.1 = κ w then _ else p).2.2) = _
        by_cases hp : p.1 = κ w <;> simp [hp]
      refine ⟨?_, fun q hq => ?_, e3 ▸ b.nd, e1 ▸ b.kd, fun j hj => ?_, ?_, fun z => (w1 z).set (txD_bd _), by rw [List.length_map]; have := b.gl; omega, fun q hq => ?_⟩
      · rw [List.getElem?_set_ne (by omega), d1, ek]
      · obtain ⟨p, hp, rfl⟩ := List.mem_map.mp hq
        by_cases hk' : p.1 = κ w
        · obtain rfl := nd_inj b.kd hp m0 (hk'.trans k0.symm)
          rw [if_pos hk']
          refine ⟨?_, s0⟩
          rw [List.getElem?_set_self]
          rw [List.length_append]
          have := b.lt hp
          omega
        · rw [if_neg hk']
          have ne : p.2.2 ≠ p0.2.2 := fun e => hk' (by rw [nd_inj b.nd hp m0 e]; exact k0)
          refine ⟨?_, (b.cel p hp).2⟩
          rw [List.getElem?_set_ne (Ne.symm ne), List.getElem?_append_left (b.lt hp)]
          exact (b.cel p hp).1
      · rw [List.getElem?_set_ne (by omega), List.getElem?_append_left (by rw [b.len]; omega)]
        exact b.old j hj
      · rw [List.length_set, List.length_append, b.len]
        rfl
      · obtain ⟨p, hp, rfl⟩ := List.mem_map.mp hq
        have := b.wl p hp
        by_cases hk' : p.1 = κ w
        · rw [if_pos hk']
          show (p.2.1 ++ [w]).length ≤ i + 1
          rw [List.length_append]
          show p.2.1.length + 1 ≤ i + 1
          omega
        · rw [if_neg hk']; omega
  | none =>
    rw [f] at vd
    have sd : mSetd (mVar 2) mk (mLstC mNil) env t = some (.ok (.obj t.length) ((t ++ [Cell.lst []]).set s.length (.dic (dkG (g ++ [(κ w, [w], t.length)]))))) := by
      unfold mSetd
      simp only [bn, v2, b.dic, hk, mLstC, mNil, List.length_nil, Nat.zero_le, if_true, kOf, d1, kl]
      rw [vd]
      show some (Re.ok _ _) = _
      rw [putD_new (by rw [vd]; rfl)]
      unfold dkG
      rw [List.map_append]
      rfl
    have ls : s.length ≠ t.length := by rw [b.len]; omega
    have c0 : ((t ++ [Cell.lst []]).set s.length (.dic (dkG (g ++ [(κ w, [w], t.length)]))))[t.length]? = some (.lst []) := by
      rw [List.getElem?_set_ne ls]
      exact celln
    have pe : put3 κ g w (s.length + 1 + i) = g ++ [(κ w, [w], t.length)] := by unfold put3; rw [f, b.len]
    refine ⟨((t ++ [Cell.lst []]).set s.length (.dic (dkG (g ++ [(κ w, [w], t.length)])))).set t.length (.lst (txD [w])), ?_, ?_⟩
    · unfold mDrop mApp
      simp only [bnS, bn, sd, c0, mCons, mNil, v3, List.length_nil, if_true, List.nil_append]
      rfl
    · rw [pe]
      have nk : ∀ p ∈ g, p.1 ≠ κ w := fun p hp e => by
        have := List.find?_eq_none.mp f p hp
        simp [e] at this
      have tl : (t ++ [Cell.lst []]).length = t.length + 1 := by rw [List.length_append]; rfl
      have wf2 : Wf s → Wf (((t ++ [Cell.lst []]).set s.length (.dic (dkG (g ++ [(κ w, [w], t.length)])))).set t.length (.lst (txD [w]))) := fun z => by
        refine Wf.set (Wf.set (w1 z) (show bdC _ (.dic _) = true from ?_)) (txD_bd _)
        show bdKs _ _ = true
        rw [tl]
        refine bdKs_dkG fun p hp => ?_
        rcases List.mem_append.mp hp with hp | hp
        · have := b.lt hp; omega
        · obtain rfl := List.mem_singleton.mp hp
          exact Nat.lt_succ_self _
      refine ⟨?_, fun q hq => ?_, ?_, ?_, fun j hj => ?_, ?_, wf2, by rw [List.length_append]; have := b.gl; show g.length + 1 ≤ i + 1; omega, fun q hq => ?_⟩
      · rw [List.getElem?_set_ne (Ne.symm ls), List.getElem?_set_self (by rw [tl, b.len]; omega)]
      · rcases List.mem_append.mp hq with hq | hq
        · refine ⟨?_, (b.cel q hq).2⟩
          have := b.lt hq
          rw [List.getElem?_set_ne (by omega), List.getElem?_set_ne (by have := (b.cel q hq).2; omega), List.getElem?_append_left (b.lt hq)]
          exact (b.cel q hq).1
        · obtain rfl := List.mem_singleton.mp hq
          refine ⟨?_, by show s.length < t.length; rw [b.len]; omega⟩
          rw [List.getElem?_set_self]
          rw [List.length_set, tl]
          exact Nat.lt_succ_self _
      · rw [List.map_append]
        refine nd_snoc b.nd fun h => ?_
        obtain ⟨p, hp, e⟩ := List.mem_map.mp h
        have := b.lt hp
        have e : p.2.2 = t.length := e
        omega
      · rw [List.map_append]
        refine nd_snoc b.kd fun h => ?_
        obtain ⟨p, hp, e⟩ := List.mem_map.mp h
        exact nk p hp e
      · rw [List.getElem?_set_ne (by rw [b.len]; omega), List.getElem?_set_ne (by omega), List.getElem?_append_left (by rw [b.len]; omega)]
        exact b.old j hj
      · rw [List.length_set, List.length_set, tl, b.len]
        omega
      · rcases List.mem_append.mp hq with hq | hq
        · have := b.wl q hq; omega
        · obtain rfl := List.mem_singleton.mp hq
          show 1 ≤ i + 1
          omega
end Nm
set_option Elab.async false
set_option linter.all false
set_option maxRecDepth 100000
set_option maxHeartbeats 4000000
namespace Nm
open PySem PySem.Spec PyProof.Rows L2 Evl
theorem dfzL_g : ∀ {g : G3} {u : GS}, (∀ p ∈ g, u[p.2.2]? = some (.lst (txD p.2.1))) → (g.map (·.2.2)).Nodup →
    ∃ u', dfzL (objD g) u = some (g.map (fun p => .lst (txD p.2.1)), u') ∧ u'.length = u.length ∧ (∀ j, (∀ p ∈ g, j ≠ p.2.2) → u'[j]? = u[j]?) ∧ (Wf u → Wf u')
  | [], u, _, _ => ⟨u, rfl, rfl, fun _ _ => rfl, id⟩
  | p :: r, u, h, nd => by
    rw [List.map_cons, List.nodup_cons] at nd
    obtain ⟨u', e, l, k, w⟩ := dfzL_g (g := r) (u := u.set p.2.2 .free) (fun q hq => by
      have ne : p.2.2 ≠ q.2.2 := fun z => nd.1 (z ▸ List.mem_map.mpr ⟨q, hq, rfl⟩)
      rw [List.getElem?_set_ne ne]
      exact h q (List.mem_cons_of_mem _ hq)) nd.2
    refine ⟨u', ?_, by rw [l, List.length_set], fun j hj => ?_, fun z => w (z.set rfl)⟩
    · show dfzL (.obj p.2.2 :: objD r) u = _
      unfold dfzL
      rw [h p (List.mem_cons_self ..)]
      show (dfzL (objD r) (u.set p.2.2 .free)).map _ = _
      rw [e]
      rfl
    · rw [k j fun q hq => hj q (List.mem_cons_of_mem _ hq), List.getElem?_set_ne (Ne.symm (hj p (List.mem_cons_self ..)))]
def gD (G : List (List (List Nat))) : List D := G.map fun ws => .lst (txD ws)
theorem gD_ws (g : G3) : g.map (fun p => D.lst (txD p.2.1)) = gD (wsOf g) := by unfold gD wsOf; rw [List.map_map]; rfl
/-- a list of cells behind s -/
structure Made (s t : GS) (m : Nat) (g : G3) : Prop where
  top : t[m]? = some (.lst (objD g))
  cel : ∀ p ∈ g, t[p.2.2]? = some (.lst (txD p.2.1)) ∧ s.length < p.2.2 ∧ p.2.2 ≠ m
  nd : (g.map (·.2.2)).Nodup
  old : ∀ j, j < s.length → t[j]? = s[j]?
  mlt : s.length < m
  len : s.length ≤ t.length
  wf : Wf s → Wf t
theorem Bl.made {s t : GS} {i : Nat} {g : G3} (b : Bl s i g t) : Made s (t ++ [.lst (objD g)]) t.length g where
  top := celln
  cel := fun p hp => ⟨by rw [List.getElem?_append_left (b.lt hp)]; exact (b.cel p hp).1, (b.cel p hp).2, Nat.ne_of_lt (b.lt hp)⟩
  nd := b.nd
  old := fun j hj => by rw [List.getElem?_append_left (by rw [b.len]; omega)]; exact b.old j hj
  mlt := by rw [b.len]; omega
  len := by rw [List.length_append, b.len]; omega
  wf := fun z => (b.wf z).app (show bdDs _ _ = true from bdDs_objD fun p hp => Nat.lt_succ_of_lt (b.lt hp))
theorem Bl.rest {s t : GS} {i : Nat} {g : G3} (b : Bl s i g t) : ∃ t', Nm.dfz (.lst (objD g)) t = some (.lst (gD (wsOf g)), t') ∧ t'.length = t.length ∧ (∀ j, j < s.length → t'[j]? = s[j]?) := by
  obtain ⟨u', e, l, k, w⟩ := dfzL_g (g := g) (u := t) (fun p hp => (b.cel p hp).1) b.nd
  refine ⟨u', ?_, l, fun j hj => ?_⟩
  · unfold Nm.dfz
    dsimp only
    rw [e, Option.map_some, gD_ws]
  · rw [k j fun p hp => by have := (b.cel p hp).2; omega]
    exact b.old j hj
theorem pre_eq {s t : GS} (hl : s.length ≤ t.length) (h : ∀ j, j < s.length → t[j]? = s[j]?) : ∃ r, t = s ++ r := by
  refine ⟨t.drop s.length, ?_⟩
  have : t.take s.length = s := by
    refine List.ext_getElem? fun j => ?_
    by_cases hj : j < s.length
    · rw [List.getElem?_take_of_lt hj]; exact h j hj
    · rw [List.getElem?_eq_none (by rw [List.length_take]; omega), List.getElem?_eq_none (by omega)]
  calc t = t.take s.length ++ t.drop s.length := (List.take_append_drop ..).symm
    _ = _ := by rw [this]
end Nm
set_option Elab.async false
set_option linter.all false
set_option maxRecDepth 100000
set_option maxHeartbeats 4000000
namespace Nm
open PySem PySem.Spec PyProof.Rows L2 Evl
theorem sgn_128 {c : Nat} (h : sgn c = true) : c < 128 := by
  have : ∀ d ∈ SIGNS.cps.toList, d < 128 := by decide +kernel
  exact this c (by simpa [sgn] using h)
def tD (ws : List (List Nat)) : PyData := .list (ws.map fun w => .str (stL w))
theorem pyDs_tx : ∀ ws : List (List Nat), pyDs (txD ws) = some (ws.map fun w => PyData.str (stL w))
  | [] => rfl
  | w :: r => by
    have ih := pyDs_tx r
    show pyDs (.v (.str (stL w)) :: txD r) = _
    unfold pyDs
    rw [ih]
    rfl
def Ws (n : Nat) (ws : List (List Nat)) : Prop := ∀ w ∈ ws, Wd w n
theorem strOk_wd {w : List Nat} {n : Nat} (h : Wd w n) : PyData.strOk (stL w) = true := by
  unfold PyData.strOk
  rw [Array.all_eq_true']
  intro c hc
  have := sgn_128 (h.sg c (by simpa [stL] using hc))
  exact decide_eq_true (by omega)
theorem lay_tx {n : Nat} : ∀ {ws : List (List Nat)}, Ws n ws → PyData.canLayAll0 (ws.map fun w => PyData.str (stL w)) = true
  | [], _ => by simp [PyData.canLayAll0]
  | w :: r, h => by
    rw [List.map_cons]
    simp only [PyData.canLayAll0, PyData.canLay0, strOk_wd (h w (List.mem_cons_self ..)), lay_tx (ws := r) fun x hx => h x (List.mem_cons_of_mem _ hx), Bool.and_self]
theorem dep_tx : ∀ ws : List (List Nat), PyData.depthAll (ws.map fun w => PyData.str (stL w)) ≤ 1
  | [] => by simp [PyData.depthAll]
  | w :: r => by
    have := dep_tx r
    rw [List.map_cons]
    simp only [PyData.depthAll, PyData.depth]
    omega
theorem dep_t (ws : List (List Nat)) : (tD ws).depth ≤ 2 := by
  have := dep_tx ws
  unfold tD
  simp only [PyData.depth]
  omega
theorem shp_t {n : Nat} {ws : List (List Nat)} (h : Ws n ws) : SeqAt.shaped (tD ws) = true := by
  have e : (tD ws).canLay0 = true := by
    unfold tD
    simp only [PyData.canLay0]
    exact lay_tx h
  have := dep_t ws
  unfold SeqAt.shaped
  rw [e, decide_eq_true (by omega)]
  rfl
theorem eq_nil {n : Nat} {ws : List (List Nat)} {s : GS} {x : D} (hx : pyS s x = some (tD ws)) (hv : ∀ v, x ≠ .v v) (hd : dvw s x = none) (h : Ws n ws) : eqAny s x (.lst []) = some (decide (ws = [])) := by
  have e : eqAny s x (.lst []) = (match pyS s x, pyS s (.lst []) with | some d, some e => if SeqAt.shaped d = true ∧ SeqAt.shaped e = true then some (PyData.eqv d e) else none | _, _ => elAny s x (.lst [])) := by
    cases x with
    | v v => exact absurd rfl (hv v)
    | obj n => simp only [eqAny, hd] <;> rfl
    | _ => first | rfl | (simp only [eqAny, hd])
  rw [e, hx, show pyS s (.lst []) = some (tD []) from rfl]
  dsimp only
  rw [if_pos ⟨shp_t h, shp_t (n := n) fun _ z => nomatch z⟩]
  cases ws with
  | nil => simp [tD, PyData.eqv, PyData.eqvAll]
  | cons a r => simp [tD, PyData.eqv, PyData.eqvAll]
theorem fNe_nil {n : Nat} {ws : List (List Nat)} {s : GS} (h : Ws n ws) : fNe (.lst (txD ws)) (.lst []) s = some (.v (.bl (!decide (ws = []))), s) := by
  unfold fNe
  rw [eq_nil (ws := ws) (by show (pyDs (txD ws)).map PyData.list = _; rw [pyDs_tx]; rfl) (fun _ z => by cases z) rfl h]
  rfl
end Nm
set_option Elab.async false
set_option linter.all false
set_option maxRecDepth 100000
set_option maxHeartbeats 4000000
set_option Elab.async false
set_option linter.all false
namespace Nm
def mayK (ms : Mks) (a b : Nat) : Bool := isM ms a && (isM ms b && !decide (lk ms a = lk ms b))
/-- a sign taken from the front of a rest, by recursion -/
def bhR (ms : Mks) : List Nat → Nat → Option (List Nat)
  | [], _ => none
  | o :: r, c => if o = c then some r else if mayK ms o c = true then (bhR ms r c).map (o :: ·) else none
section
variable {fs : Fds} {ms : Mks} {l a b u v x y : List Nat}
/-- one, whatever stands ahead and behind -/
def Eo (ms : Mks) (u v : List Nat) : Prop := ∀ p q, ordL ms (p ++ u ++ q) [] = ordL ms (p ++ v ++ q) []
theorem Eo.refl : Eo ms u u := fun _ _ => rfl
theorem Eo.trans {w : List Nat} (h : Eo ms u v) (k : Eo ms v w) : Eo ms u w := fun p q => (h p q).trans (k p q)
theorem Eo.in (h : Eo ms u v) (p q : List Nat) : Eo ms (p ++ u ++ q) (p ++ v ++ q) := fun p' q' => by
  have := h (p' ++ p) (q ++ q')
  simpa only [List.append_assoc] using this
theorem Eo.ord (h : Eo ms u v) : ordL ms u [] = ordL ms v [] := by
  have := h [] []
  simpa only [List.append_nil, List.nil_append] using this
/-- what stands ahead leaves marks behind -/
theorem ord_push : ∀ (p acc : List Nat), ∃ out acc', ∀ l, ordL ms (p ++ l) acc = out ++ ordL ms l acc'
  | [], acc => ⟨[], acc, fun _ => rfl⟩
  | c :: r, acc => by
    cases h : isM ms c with
    | true =>
      obtain ⟨o, a, e⟩ := ord_push r (acc ++ [c])
      exact ⟨o, a, fun l => by rw [List.cons_append, ordL_mark h, e]⟩
    | false =>
      obtain ⟨o, a, e⟩ := ord_push r []
      exact ⟨runS ms acc ++ c :: o, a, fun l => by rw [List.cons_append, ordL_sign h, e, List.append_assoc, List.cons_append]⟩
theorem ord_marks : ∀ (run q acc : List Nat), (∀ c ∈ run, isM ms c = true) → ordL ms (run ++ q) acc = ordL ms q (acc ++ run)
  | [], q, acc, _ => by rw [List.nil_append, List.append_nil]
  | c :: r, q, acc, h => by
    rw [List.cons_append, ordL_mark (h c (List.mem_cons_self ..)), ord_marks r q _ fun d hd => h d (List.mem_cons_of_mem _ hd), List.append_assoc]
    rfl
theorem runS_marks : ∀ c ∈ runS ms l, isM ms c = true := by
  intro c hc
  unfold runS at hc
  simp only [List.mem_append, List.mem_filter, decide_eq_true_eq] at hc
  unfold isM
  rcases hc with ⟨_, h⟩ | ⟨_, h⟩ | ⟨_, h⟩ <;> rw [h] <;> rfl
theorem runS_cls (ok : okM ms) (k : Int) : (runS ms l).filter (fun c => decide (lk ms c = some k)) = l.filter (fun c => decide (lk ms c = some k)) := by
  have two : ∀ j : Int, (l.filter (fun c => decide (lk ms c = some j))).filter (fun c => decide (lk ms c = some k)) = if j = k then l.filter (fun c => decide (lk ms c = some k)) else [] := by
    intro j
    rw [List.filter_filter]
    by_cases e : j = k
    · subst e
      rw [if_pos rfl]
      congr 1
      funext c
      exact Bool.and_self _
    · rw [if_neg e, List.filter_eq_nil_iff]
      intro c _ h
      simp only [Bool.and_eq_true, decide_eq_true_eq] at h
      exact e (Option.some.inj (h.2.symm.trans h.1))
  unfold runS
  rw [List.filter_append, List.filter_append, two, two, two]
  by_cases e1 : (1 : Int) = k
  · subst e1; simp
  · by_cases e2 : (2 : Int) = k
    · subst e2; simp
    · by_cases e3 : (3 : Int) = k
      · subst e3; simp
      · rw [if_neg e1, if_neg e2, if_neg e3]
        symm
        show l.filter _ = []
        rw [List.filter_eq_nil_iff]
        intro c _ h
        simp only [decide_eq_true_eq] at h
        rcases ok _ _ h with z | z | z
        · exact e1 z.symm
        · exact e2 z.symm
        · exact e3 z.symm
theorem Eo.run (ok : okM ms) (h : ∀ c ∈ l, isM ms c = true) : Eo ms l (runS ms l) := fun p q => by
  obtain ⟨o, a, e⟩ := ord_push (ms := ms) p []
  rw [List.append_assoc, List.append_assoc, e, e, ord_marks _ _ _ h, ord_marks _ _ _ runS_marks]
  congr 1
  refine ordL_congr fun k => ?_
  rw [List.filter_append, List.filter_append, runS_cls ok]
theorem Eo.ordL (ok : okM ms) : ∀ (r run : List Nat), (∀ c ∈ run, isM ms c = true) → Eo ms (run ++ r) (Nm.ordL ms r run)
  | [], run, h => by
    rw [List.append_nil]
    exact Eo.run ok h
  | c :: r, run, h => by
    cases hc : isM ms c with
    | true =>
      rw [ordL_mark hc]
      have := Eo.ordL ok r (run ++ [c]) fun d hd => (List.mem_append.mp hd).elim (h d) fun z => by rw [List.mem_singleton.mp z]; exact hc
      rwa [List.append_assoc] at this
    | false =>
      rw [ordL_sign hc]
      have h1 := (Eo.run ok h).in [] (c :: r)
      have h2 := (Eo.ordL ok r [] (fun _ z => nomatch z)).in (runS ms run ++ [c]) []
      simp only [List.append_nil, List.nil_append, List.append_assoc] at h1 h2
      exact h1.trans h2
end
end Nm
set_option Elab.async false
set_option linter.all false
set_option maxRecDepth 100000
set_option maxHeartbeats 4000000
namespace Nm
open PySem PySem.Spec PyProof.Rows L2 Evl
/-- the second rule holds all of the first -/
structure Sup (fs : Fds) (ms : Mks) (fs' : Fds) (ms' : Mks) : Prop where
  f : ∀ c w, lk fs c = some w → lk fs' c = some w
  m : ∀ c k, lk ms c = some k → lk ms' c = some k
section
variable {fs fs' : Fds} {ms ms' : Mks} {l x y : List Nat}
theorem Sup.isM (h : Sup fs ms fs' ms') {c : Nat} (e : isM ms c = true) : isM ms' c = true := by
  unfold Nm.isM at e ⊢
  cases k : lk ms c with
  | none => rw [k] at e; cases e
  | some i => rw [h.m c i k]; rfl
theorem Sup.runS (h : Sup fs ms fs' ms') {run : List Nat} (hr : ∀ c ∈ run, Nm.isM ms c = true) : Nm.runS ms run = Nm.runS ms' run := by
  have e : ∀ k : Int, (run.filter fun c => decide (lk ms c = some k)) = run.filter fun c => decide (lk ms' c = some k) := fun k => by
    refine List.filter_congr fun c hc => ?_
    have := hr c hc
    unfold Nm.isM at this
    cases q : lk ms c with
    | none => rw [q] at this; cases this
    | some i => rw [h.m c i q]
  unfold Nm.runS
  rw [e 1, e 2, e 3]
theorem fold_marks (ro : RuleOk fs' ms') : ∀ {l : List Nat}, (∀ c ∈ l, isM ms' c = true) → foldL fs' l = l := fun h => foldL_id fun c hc => mark_alone ro (h c hc)
theorem Sup.ord (h : Sup fs ms fs' ms') (ro : RuleOk fs' ms') : ∀ (r run : List Nat), (∀ c ∈ run, Nm.isM ms c = true) → Eo ms' (run ++ foldL fs' r) (foldL fs' (ordL ms r run))
  | [], run, hr => by
    show Eo ms' (run ++ []) (foldL fs' (Nm.runS ms run))
    rw [List.append_nil, h.runS hr, fold_marks ro runS_marks]
    exact Eo.run ro.okM fun c hc => h.isM (hr c hc)
  | c :: r, run, hr => by
    cases hc : Nm.isM ms c with
    | true =>
      have ih := Sup.ord h ro r (run ++ [c]) fun d hd => (List.mem_append.mp hd).elim (hr d) fun z => by rw [List.mem_singleton.mp z]; exact hc
      rw [ordL_mark hc, foldL_cons, show foldC fs' c = [c] by unfold foldC; rw [mark_alone ro (h.isM hc)]; rfl]
      rw [List.append_assoc] at ih
      exact ih
    | false =>
      have ih := Sup.ord h ro r [] fun _ z => nomatch z
      rw [ordL_sign hc, foldL_app, foldL_cons, foldL_cons, h.runS hr, fold_marks ro runS_marks]
      have e1 := (Eo.run ro.okM (l := run) fun c hc => h.isM (hr c hc)).in [] (foldC fs' c ++ foldL fs' r)
      have e2 := ih.in (Nm.runS ms' run ++ foldC fs' c) []
      simp only [List.append_assoc, List.nil_append, List.append_nil] at e1 e2
      exact e1.trans e2
theorem Sup.fold (h : Sup fs ms fs' ms') (ro : RuleOk fs' ms') : ∀ l : List Nat, foldL fs' (foldL fs l) = foldL fs' l
  | [] => rfl
  | c :: l => by
    rw [foldL_cons, foldL_app, Sup.fold h ro l, foldL_cons]
    congr 1
    unfold foldC
    cases e : lk fs c with
    | none =>
      show foldL fs' [c] = _
      rw [foldL_cons, foldL_nil, List.append_nil]
      rfl
    | some w =>
      have e' := h.f c w e
      rw [e']
      exact foldL_id (ro.fw _ (lk_mem e')).2
theorem Sup.key (h : Sup fs ms fs' ms') (ro : RuleOk fs' ms') (l : List Nat) : keyL fs' ms' (keyL fs ms l) = keyL fs' ms' l := by
  have e := (Sup.ord h ro (foldL fs l) [] fun _ z => nomatch z).ord
  rw [List.nil_append, Sup.fold h ro] at e
  exact e.symm
theorem Sup.swap (h : Sup fs ms fs' ms') (ro : RuleOk fs' ms') {a b : Nat} (ha : Nm.isM ms a = true) (hb : Nm.isM ms b = true) (hn : lk ms a ≠ lk ms b) : keyL fs' ms' [a, b] = keyL fs' ms' [b, a] := by
  have ma := h.isM ha; have mb := h.isM hb
  have ne : lk ms' a ≠ lk ms' b := fun e => by
    unfold Nm.isM at ha hb
    cases q : lk ms a with
    | none => rw [q] at ha; cases ha
    | some i =>
      cases q2 : lk ms b with
      | none => rw [q2] at hb; cases hb
      | some j =>
        rw [h.m a i q, h.m b j q2] at e
        exact hn (by rw [q, q2, e])
  unfold keyL
  rw [fold_marks ro (l := [a, b]) (by simp [ma, mb]), fold_marks ro (l := [b, a]) (by simp [ma, mb]), ordL_mark ma, ordL_mark mb, ordL_mark mb, ordL_mark ma]
  refine runS_congr fun k => ?_
  show ([a, b].filter _) = [b, a].filter _
  by_cases h1 : lk ms' a = some k
  · have h2 : lk ms' b ≠ some k := fun z => ne (h1.trans z.symm)
    simp [h1, h2]
  · by_cases h3 : lk ms' b = some k <;> simp [h1, h3]
theorem Sup.one (h : Sup fs ms fs' ms') (ro : RuleOk fs' ms') {c : Nat} {w : List Nat} (e : lk fs c = some w) : keyL fs' ms' [c] = keyL fs' ms' w := by
  have e' := h.f c w e
  unfold keyL
  rw [foldL_cons, foldL_nil, List.append_nil, foldL_id (ro.fw _ (lk_mem e')).2]
  unfold foldC
  rw [e']
  rfl
end
end Nm
set_option Elab.async false
set_option linter.all false
set_option maxRecDepth 100000
set_option maxHeartbeats 4000000
namespace Nm
open PySem PySem.Spec PyProof.Rows L2 Evl
/-- what is wished of a value, of an error -/
structure Kq (α : Type) where
  ok : α → GS → Prop
  ex : Str → List (Str × D) → GS → Prop := fun _ _ _ => False
def We {α : Type} (r : RO α) (Q : Kq α) : Prop := match r with
  | some (.ok a s) => Q.ok a s
  | some (.ex c fs s) => Q.ex c fs s
  | none => False
/-- by values -/
def Wp {α : Type} (r : Option (α × GS)) (Q : α → GS → Prop) : Prop := match r with
  | some (a, s) => Q a s
  | none => False
structure Nds where
  nx : EnvD → GS → Prop := fun _ _ => False
  rt : D → GS → Prop := fun _ _ => False
  bk : EnvD → GS → Prop := fun _ _ => False
  ct : EnvD → GS → Prop := fun _ _ => False
  ex : Str → List (Str × D) → EnvD → GS → Prop := fun _ _ _ _ => False
def Wt (r : Option SR) (N : Nds) : Prop := match r with
  | some (.nx e s) => N.nx e s
  | some (.rt d s) => N.rt d s
  | some (.bk e s) => N.bk e s
  | some (.ct e s) => N.ct e s
  | some (.ex c fs e s) => N.ex c fs e s
  | none => False
section
variable {α β : Type} {Q : Kq α} {N : Nds}
theorem We_ok {a : α} {s : GS} : We (some (.ok a s)) Q = Q.ok a s := rfl
theorem We_ex {c : Str} {fs : List (Str × D)} {s : GS} : We (some (.ex c fs s)) Q = Q.ex c fs s := rfl
theorem Wp_some {a : α} {s : GS} {q : α → GS → Prop} : Wp (some (a, s)) q = q a s := rfl
theorem Wt_nx {e : EnvD} {s : GS} : Wt (some (.nx e s)) N = N.nx e s := rfl
theorem Wt_rt {d : D} {s : GS} : Wt (some (.rt d s)) N = N.rt d s := rfl
theorem We_none {r : RO α} (h : r = none) : We r Q = False := by rw [h]; rfl
theorem We.of {r : RO α} {a : α} {s : GS} (e : r = some (.ok a s)) (h : Q.ok a s) : We r Q := by rw [e]; exact h
theorem Wt.of {r : Option SR} {e' : EnvD} {s : GS} (e : r = some (.nx e' s)) (h : N.nx e' s) : Wt r N := by rw [e]; exact h
theorem Wp.of {r : Option (α × GS)} {q : α → GS → Prop} {a : α} {s : GS} (e : r = some (a, s)) (h : q a s) : Wp r q := by rw [e]; exact h
theorem We.imp {r : RO α} {Q' : Kq α} (h : We r Q) (k : ∀ a s, Q.ok a s → Q'.ok a s) (k' : ∀ c fs s, Q.ex c fs s → Q'.ex c fs s := by intro _ _ _ h; exact h.elim) : We r Q' := by
  match r, h with
  | some (.ok a s), h => exact k a s h
  | some (.ex c fs s), h => exact k' c fs s h
theorem We.get {r : RO α} {q : α → GS → Prop} (h : We r ⟨q, fun _ _ _ => False⟩) : ∃ a s, r = some (.ok a s) ∧ q a s := by
  match r, h with
  | some (.ok a s), h => exact ⟨a, s, rfl, h⟩
  | some (.ex c fs s), h => exact h.elim
theorem Wt.imp {r : Option SR} {N N' : Nds} (h : Wt r N) (k : ∀ e s, N.nx e s → N'.nx e s) (k' : ∀ d s, N.rt d s → N'.rt d s := by intro _ _ h; exact h.elim) (k1 : ∀ e s, N.bk e s → N'.bk e s := by intro _ _ h; exact h.elim) (k2 : ∀ e s, N.ct e s → N'.ct e s := by intro _ _ h; exact h.elim) (k3 : ∀ c fs e s, N.ex c fs e s → N'.ex c fs e s := by intro _ _ _ _ h; exact h.elim) : Wt r N' := by
  match r, h with
  | some (.nx e s), h => exact k e s h
  | some (.rt e s), h => exact k' e s h
  | some (.bk e s), h => exact k1 e s h
  | some (.ct e s), h => exact k2 e s h
  | some (.ex c fs e s), h => exact k3 c fs e s h
theorem Wt.ret {r : Option SR} {R : D → GS → Prop} (h : Wt r {rt := R}) : ∃ d s, r = some (.rt d s) ∧ R d s := by
  match r, h with
  | some (.nx e s), h => exact h.elim
  | some (.rt d s), h => exact ⟨d, s, rfl, h⟩
  | some (.bk e s), h => exact h.elim
  | some (.ct e s), h => exact h.elim
  | some (.ex c fs e s), h => exact h.elim
theorem Wt.next {r : Option SR} {q : EnvD → GS → Prop} (h : Wt r {nx := q}) : ∃ e s, r = some (.nx e s) ∧ q e s := by
  match r, h with
  | some (.nx e s), h => exact ⟨e, s, rfl, h⟩
  | some (.rt d s), h => exact h.elim
  | some (.bk e s), h => exact h.elim
  | some (.ct e s), h => exact h.elim
  | some (.ex c fs e s), h => exact h.elim
theorem We_lft {r : Option (α × GS)} : We (lft r) Q = Wp r Q.ok := by
  cases r with
  | none => rfl
  | some p => rfl
theorem We_bn {r : RO β} {k : β → GS → RO α} : We (bn r k) Q = We r ⟨fun a s => We (k a s) Q, Q.ex⟩ := by
  match r with
  | none => rfl
  | some (.ok a s) => rfl
  | some (.ex c fs s) => rfl
theorem Wt_bnS {e : EnvD} {r : RO α} {k : α → GS → Option SR} : Wt (bnS e r k) N = We r ⟨fun a s => Wt (k a s) N, fun c fs s => N.ex c fs e s⟩ := by
  match r with
  | none => rfl
  | some (.ok a s) => rfl
  | some (.ex c fs s) => rfl
theorem We_if {c : Prop} [Decidable c] {r : RO α} : We (if c then r else none) Q = (c ∧ We r Q) := by
  by_cases h : c
  · rw [if_pos h]; exact propext ⟨fun x => ⟨h, x⟩, fun x => x.2⟩
  · rw [if_neg h]; exact propext ⟨fun x => x.elim, fun x => (h x.1).elim⟩
theorem Kq_ext {Q Q' : Kq α} (h : ∀ a s, Q.ok a s = Q'.ok a s) (h' : ∀ c fs s, Q.ex c fs s = Q'.ex c fs s) : Q = Q' := by
  cases Q; cases Q'
  congr
  · funext a s; exact h a s
  · funext a b s; exact h' a b s
end
def kVar (o : Option (Option D)) (Q : Kq D) (s : GS) : Prop := match o with
  | some (some (.exn _ _)) => False
  | some (some d) => Q.ok d s
  | _ => False
def kSeq (b : MS) (N : Nds) : Nds := {N with nx := fun e s => Wt (b e s) N}
def kAsg (g : MG) (e : EnvD) (N : Nds) : Kq D := ⟨fun d s => Wp (g d e s) N.nx, fun c fs s => N.ex c fs e s⟩
def kIfS (a b : MS) (e : EnvD) (N : Nds) : Kq Bool := ⟨fun c s => if c = true then Wt (a e s) N else Wt (b e s) N, fun c fs s => N.ex c fs e s⟩
def kRet (e : EnvD) (N : Nds) : Kq D := ⟨fun d s => N.rt d s, fun c fs s => N.ex c fs e s⟩
def kDrop (e : EnvD) (N : Nds) : Kq D := ⟨fun _ s => N.nx e s, fun c fs s => N.ex c fs e s⟩
def kPar (i j : Nat) (e : EnvD) (N : Nds) : Kq (List D) := ⟨fun ds s => match ds with
  | [x, y] => N.nx ((e.set i (some x)).set j (some y)) s
  | _ => False, fun c fs s => N.ex c fs e s⟩
def kPar3 (i j l : Nat) (e : EnvD) (N : Nds) : Kq (List D) := ⟨fun ds s => match ds with
  | [x, y, z] => N.nx (((e.set i (some x)).set j (some y)).set l (some z)) s
  | _ => False, fun c fs s => N.ex c fs e s⟩
def kFor (g : MG) (b : MS) (e : EnvD) (N : Nds) : Kq (List D) := ⟨fun ds s => Wt (mLoop g b ds e s) N, fun c fs s => N.ex c fs e s⟩
def kRaise (c : Str) (fn : List Str) (e : EnvD) (N : Nds) : Kq (List D) := ⟨fun ds s => match erFs fn ds with
  | some fs => N.ex c fs e s
  | none => False, fun c fs s => N.ex c fs e s⟩
def kOp2 (f : D → D → GS → Option (D × GS)) (x : D) (Q : Kq D) : Kq D := ⟨fun y s => Wp (f x y s) Q.ok, Q.ex⟩
def kOp (f : D → D → GS → Option (D × GS)) (b : ME) (e : EnvD) (Q : Kq D) : Kq D := ⟨fun x s => We (b e s) (kOp2 f x Q), Q.ex⟩
def kUn (f : D → GS → Option (D × GS)) (Q : Kq D) : Kq D := ⟨fun x s => Wp (f x s) Q.ok, Q.ex⟩
def kCons2 (x : D) (Q : Kq (List D)) : Kq (List D) := ⟨fun xs s => Q.ok (x :: xs) s, Q.ex⟩
def kCons (r : MA) (e : EnvD) (Q : Kq (List D)) : Kq D := ⟨fun x s => We (r e s) (kCons2 x Q), Q.ex⟩
def kCB (f : List D → GS → Option (D × GS)) (Q : Kq D) : Kq (List D) := ⟨fun xs s => Wp (f xs s) Q.ok, Q.ex⟩
def kCall (m : MF) (dfl : List D) (Q : Kq D) : Kq (List D) := ⟨fun xs s => We (m (xs ++ dfl) s) Q, Q.ex⟩
def kTest (Q : Kq Bool) : Kq D := ⟨fun x s => match bOf x with
  | some b => Q.ok b s
  | none => False, Q.ex⟩
def kAnd (b : MT) (e : EnvD) (Q : Kq Bool) : Kq Bool := ⟨fun c s => if c = true then We (b e s) Q else Q.ok false s, Q.ex⟩
def kOr (b : MT) (e : EnvD) (Q : Kq Bool) : Kq Bool := ⟨fun c s => if c = true then Q.ok true s else We (b e s) Q, Q.ex⟩
def kNot (Q : Kq Bool) : Kq Bool := ⟨fun c s => Q.ok (!c) s, Q.ex⟩
def kAndV (b : ME) (e : EnvD) (Q : Kq D) : Kq D := ⟨fun x s => match bOf x with
  | some true => We (b e s) Q
  | some false => Q.ok (.v (.bl false)) s
  | none => False, Q.ex⟩
def kOrV (b : ME) (e : EnvD) (Q : Kq D) : Kq D := ⟨fun x s => match bOf x with
  | some true => Q.ok (.v (.bl true)) s
  | some false => We (b e s) Q
  | none => False, Q.ex⟩
def kNotV (Q : Kq D) : Kq D := ⟨fun x s => match bOf x with
  | some c => Q.ok (.v (.bl (!c))) s
  | none => False, Q.ex⟩
def kIf (a b : ME) (e : EnvD) (Q : Kq D) : Kq Bool := ⟨fun c s => if c = true then We (a e s) Q else We (b e s) Q, Q.ex⟩
def kTup (Q : Kq D) : Kq (List D) := ⟨fun xs s => xs.length ≤ 100000 ∧ Q.ok (.tup xs) s, Q.ex⟩
def kLst (Q : Kq D) : Kq (List D) := ⟨fun xs s => xs.length ≤ 100000 ∧ Q.ok (.lst xs) s, Q.ex⟩
def kLstC (Q : Kq D) : Kq (List D) := ⟨fun xs s => xs.length ≤ 100000 ∧ Q.ok (.obj s.length) (s ++ [.lst xs]), Q.ex⟩
def kPart (Q : Kq (Option Int)) : Kq D := ⟨fun x s => match iOf x with
  | some i => Q.ok (some i) s
  | none => False, Q.ex⟩
def kSl3 (f : D → Option Int → Option Int → GS → Option (D × GS)) (x : D) (l : Option Int) (Q : Kq D) : Kq (Option Int) := ⟨fun h s => Wp (f x l h s) Q.ok, Q.ex⟩
def kSl2 (f : D → Option Int → Option Int → GS → Option (D × GS)) (x : D) (h : MO) (e : EnvD) (Q : Kq D) : Kq (Option Int) := ⟨fun l s => We (h e s) (kSl3 f x l Q), Q.ex⟩
def kSl (f : D → Option Int → Option Int → GS → Option (D × GS)) (l h : MO) (e : EnvD) (Q : Kq D) : Kq D := ⟨fun x s => We (l e s) (kSl2 f x h e Q), Q.ex⟩
def kRest (Q : Kq D) : Kq D := ⟨fun x s => Wp (frz s x) Q.ok, Q.ex⟩
def kM1b (f : D → D → GS → Option (D × GS)) (x : D) (Q : Kq D) : Kq D := ⟨fun y s => Wp (f x y s) Q.ok, Q.ex⟩
def kM1 (f : D → D → GS → Option (D × GS)) (b : ME) (e : EnvD) (Q : Kq D) : Kq D := ⟨fun x s => match sOf x with
  | some _ => We (b e s) (kM1b f x Q)
  | none => False, Q.ex⟩
def kMake2 (c : Str) (n : Nat) (Q : Kq D) : Kq D := ⟨fun r s => match r with
  | .v .non => Q.ok (.obj n) s
  | _ => False, Q.ex⟩
def kTry (l : List Clz) (N : Nds) : Nds := {N with ex := fun c fs e s => c ∈ errNames ∧ Wt (mCatch c fs l e s) N}
def kEnd (nm : Option Nat) (N : Nds) : Nds := ⟨fun e s => noX (setX nm none e) = true ∧ N.nx (setX nm none e) s, N.rt, fun e s => noX (setX nm none e) = true ∧ N.bk (setX nm none e) s, fun e s => noX (setX nm none e) = true ∧ N.ct (setX nm none e) s, fun _ _ _ _ => False⟩
section
variable {e : EnvD} {s : GS} {N : Nds} {Q : Kq D} {QB : Kq Bool} {QL : Kq (List D)} {QO : Kq (Option Int)} {a b : ME} {t u : MT} {A : MA} {p q : MS} {x y : D} {f : D → D → GS → Option (D × GS)} {f1 : D → GS → Option (D × GS)} {fs : List D → GS → Option (D × GS)} {f3 : D → Option Int → Option Int → GS → Option (D × GS)} {g : MG} {l h : MO} {c : Str} {fl : List (Str × D)} {m : MF} {dfl xs : List D}
theorem w_seq : Wt (mSeq p q e s) N = Wt (p e s) (kSeq q N) := by
  unfold mSeq
  match p e s with
  | none => rfl
  | some (.nx _ _) => rfl
  | some (.rt _ _) => rfl
  | some (.bk _ _) => rfl
  | some (.ct _ _) => rfl
  | some (.ex _ _ _ _) => rfl
theorem w_kseq : (kSeq q N).nx e s = Wt (q e s) N := rfl
theorem w_kseqr : (kSeq q N).rt x s = N.rt x s := rfl
theorem w_kseqb : (kSeq q N).bk e s = N.bk e s := rfl
theorem w_kseqc : (kSeq q N).ct e s = N.ct e s := rfl
theorem w_kseqx : (kSeq q N).ex c fl e s = N.ex c fl e s := rfl
theorem w_next : Wt (mNext e s) N = N.nx e s := rfl
theorem w_brk : Wt (mBreak e s) N = N.bk e s := rfl
theorem w_cnt : Wt (mCont e s) N = N.ct e s := rfl
theorem w_drop : Wt (mDrop a e s) N = We (a e s) (kDrop e N) := by unfold mDrop; rw [Wt_bnS]; rfl
theorem w_kdrop : (kDrop e N).ok x s = N.nx e s := rfl
theorem w_kdropx : (kDrop e N).ex c fl s = N.ex c fl e s := rfl
theorem w_ret : Wt (mRet a e s) N = We (a e s) (kRet e N) := by unfold mRet; rw [Wt_bnS]; rfl
theorem w_kret : (kRet e N).ok x s = N.rt x s := rfl
theorem w_kretx : (kRet e N).ex c fl s = N.ex c fl e s := rfl
theorem w_retN : Wt (mRetN e s) N = N.rt (.v .non) s := rfl
theorem w_ifS : Wt (mIfS t p q e s) N = We (t e s) (kIfS p q e N) := by
  unfold mIfS; rw [Wt_bnS]
  match t e s with
  | none => rfl
  | some (.ok true _) => rfl
  | some (.ok false _) => rfl
  | some (.ex _ _ _) => rfl
theorem w_kifT : (kIfS p q e N).ok true s = Wt (p e s) N := rfl
theorem w_kifF : (kIfS p q e N).ok false s = Wt (q e s) N := rfl
theorem w_kifD {d : Prop} [Decidable d] : (kIfS p q e N).ok (decide d) s = if d then Wt (p e s) N else Wt (q e s) N := by
  by_cases hd : d
  · rw [decide_eq_true hd, if_pos hd]; rfl
  · rw [decide_eq_false hd, if_neg hd]; rfl
theorem w_kifN {d : Prop} [Decidable d] : (kIfS p q e N).ok (!decide d) s = if d then Wt (q e s) N else Wt (p e s) N := by
  by_cases hd : d
  · rw [decide_eq_true hd, if_pos hd]; rfl
  · rw [decide_eq_false hd, if_neg hd]; rfl
theorem w_kifx : (kIfS p q e N).ex c fl s = N.ex c fl e s := rfl
theorem w_asg : Wt (mAsg a g e s) N = We (a e s) (kAsg g e N) := by
  unfold mAsg; rw [Wt_bnS]
  match a e s with
  | none => rfl
  | some (.ok d s1) =>
    show Wt _ N = Wp (g d e s1) N.nx
    match g d e s1 with
    | none => rfl
    | some (_, _) => rfl
  | some (.ex _ _ _) => rfl
theorem w_kasg : (kAsg g e N).ok x s = Wp (g x e s) N.nx := rfl
def kGs (r : MGs) (ds : List D) (K : EnvD → GS → Prop) : EnvD → GS → Prop := fun e s => Wp (r ds e s) K
theorem w_mgNil {K : EnvD → GS → Prop} : Wp (mgNil [] e s) K = K e s := rfl
theorem w_mgCons {r : MGs} {K : EnvD → GS → Prop} : Wp (mgCons g r (x :: xs) e s) K = Wp (g x e s) (kGs r xs K) := by
  show Wp (bnd (g x e s) _) K = _
  cases g x e s with
  | none => rfl
  | some q => rfl
theorem w_kgs {r : MGs} {K : EnvD → GS → Prop} : kGs r xs K e s = Wp (r xs e s) K := rfl
theorem w_mgTup {r : MGs} {n : Nat} {K : EnvD → GS → Prop} : Wp (mgTup n r (.tup xs) e s) K = (xs.length = n ∧ Wp (r xs e s) K) := by
  show Wp (if xs.length = n then _ else none) K = _
  by_cases h : xs.length = n
  · rw [if_pos h]; exact propext ⟨fun z => ⟨h, z⟩, fun z => z.2⟩
  · rw [if_neg h]; exact propext ⟨fun z => z.elim, fun z => (h z.1).elim⟩
theorem w_mgTupK {r : MGs} {n : Nat} {K : EnvD → GS → Prop} : Wp (mgTup n r (.tpk xs) e s) K = (xs.length = n ∧ Wp (r xs e s) K) := by
  show Wp (if xs.length = n then _ else none) K = _
  by_cases h : xs.length = n
  · rw [if_pos h]; exact propext ⟨fun z => ⟨h, z⟩, fun z => z.2⟩
  · rw [if_neg h]; exact propext ⟨fun z => z.elim, fun z => (h z.1).elim⟩
theorem w_mgN {i : Nat} {K : EnvD → GS → Prop} : Wp (mgName i x e s) K = K (e.set i (some x)) s := rfl
theorem w_kasgx : (kAsg g e N).ex c fl s = N.ex c fl e s := rfl
theorem w_par {i j : Nat} : Wt (mPar i j A e s) N = We (A e s) (kPar i j e N) := by
  unfold mPar; rw [Wt_bnS]
  match A e s with
  | none => rfl
  | some (.ok [] _) => rfl
  | some (.ok [_] _) => rfl
  | some (.ok [_, _] _) => rfl
  | some (.ok (_ :: _ :: _ :: _) _) => rfl
  | some (.ex _ _ _) => rfl
theorem w_kpar {i j : Nat} : (kPar i j e N).ok [x, y] s = N.nx ((e.set i (some x)).set j (some y)) s := rfl
theorem w_par3 {i j l : Nat} : Wt (mPar3 i j l A e s) N = We (A e s) (kPar3 i j l e N) := by
  unfold mPar3; rw [Wt_bnS]
  match A e s with
  | none => rfl
  | some (.ok [] _) => rfl
  | some (.ok [_] _) => rfl
  | some (.ok [_, _] _) => rfl
  | some (.ok [_, _, _] _) => rfl
  | some (.ok (_ :: _ :: _ :: _ :: _) _) => rfl
  | some (.ex _ _ _) => rfl
theorem w_kpar3 {i j l : Nat} {z : D} : (kPar3 i j l e N).ok [x, y, z] s = N.nx (((e.set i (some x)).set j (some y)).set l (some z)) s := rfl
theorem w_for {i : MI} : Wt (mFor i g p e s) N = We (i e s) (kFor g p e N) := by unfold mFor; rw [Wt_bnS]; rfl
theorem w_kfor : (kFor g p e N).ok xs s = Wt (mLoop g p xs e s) N := rfl
theorem w_raise {fn : List Str} : Wt (mRaise c fn A e s) N = We (A e s) (kRaise c fn e N) := by
  unfold mRaise; rw [Wt_bnS]
  match A e s with
  | none => rfl
  | some (.ok ds s1) =>
    show Wt _ N = (kRaise c fn e N).ok ds s1
    unfold kRaise
    dsimp only
    cases erFs fn ds <;> rfl
  | some (.ex _ _ _) => rfl
theorem w_kraise1 {f : Str} : (kRaise c [f] e N).ok [x] s = N.ex c [(f, x)] e s := rfl
theorem w_try {l : List Clz} : Wt (mTry p l e s) N = Wt (p e s) (kTry l N) := by
  unfold mTry
  match p e s with
  | none => rfl
  | some (.nx _ _) => rfl
  | some (.rt _ _) => rfl
  | some (.bk _ _) => rfl
  | some (.ct _ _) => rfl
  | some (.ex c fs e1 s1) =>
    show Wt (if c ∈ errNames then mCatch c fs l e1 s1 else none) N = (c ∈ errNames ∧ Wt (mCatch c fs l e1 s1) N)
    by_cases h : c ∈ errNames
    · rw [if_pos h]; exact propext ⟨fun z => ⟨h, z⟩, fun z => z.2⟩
    · rw [if_neg h]; exact propext ⟨fun z => z.elim, fun z => (h z.1).elim⟩
theorem w_ktry {l : List Clz} : (kTry l N).nx e s = N.nx e s := rfl
theorem w_ktryr {l : List Clz} : (kTry l N).rt x s = N.rt x s := rfl
theorem w_ktryx {l : List Clz} : (kTry l N).ex c fl e s = (c ∈ errNames ∧ Wt (mCatch c fl l e s) N) := rfl
theorem w_catch {ns : List Str} {nm : Option Nat} {l : List Clz} : Wt (mCatch c fl (⟨ns, nm, p⟩ :: l) e s) N = if c ∈ ns then Wt (p (setX nm (some (.exn c fl)) e) s) (kEnd nm N) else Wt (mCatch c fl l e s) N := by
  rw [mCatch]
  dsimp only
  by_cases h : c ∈ ns
  · rw [if_pos h, if_pos h]
    match p (setX nm (some (.exn c fl)) e) s with
    | none => rfl
    | some (.nx e1 s1) =>
      show Wt (if noX (setX nm none e1) = true then _ else none) N = (noX (setX nm none e1) = true ∧ N.nx (setX nm none e1) s1)
      by_cases h : noX (setX nm none e1) = true
      · rw [if_pos h]; exact propext ⟨fun z => ⟨h, z⟩, fun z => z.2⟩
      · rw [if_neg h]; exact propext ⟨fun z => z.elim, fun z => (h z.1).elim⟩
    | some (.rt _ _) => rfl
    | some (.bk e1 s1) =>
      show Wt (if noX (setX nm none e1) = true then _ else none) N = (noX (setX nm none e1) = true ∧ N.bk (setX nm none e1) s1)
      by_cases h : noX (setX nm none e1) = true
      · rw [if_pos h]; exact propext ⟨fun z => ⟨h, z⟩, fun z => z.2⟩
      · rw [if_neg h]; exact propext ⟨fun z => z.elim, fun z => (h z.1).elim⟩
    | some (.ct e1 s1) =>
      show Wt (if noX (setX nm none e1) = true then _ else none) N = (noX (setX nm none e1) = true ∧ N.ct (setX nm none e1) s1)
      by_cases h : noX (setX nm none e1) = true
      · rw [if_pos h]; exact propext ⟨fun z => ⟨h, z⟩, fun z => z.2⟩
      · rw [if_neg h]; exact propext ⟨fun z => z.elim, fun z => (h z.1).elim⟩
    | some (.ex _ _ _ _) => rfl
  · rw [if_neg h, if_neg h]
theorem w_catch0 : Wt (mCatch c fl [] e s) N = N.ex c fl e s := rfl
theorem w_kend {nm : Option Nat} : (kEnd nm N).nx e s = (noX (setX nm none e) = true ∧ N.nx (setX nm none e) s) := rfl
theorem w_kendr {nm : Option Nat} : (kEnd nm N).rt x s = N.rt x s := rfl
theorem w_op : We (mOp f a b e s) Q = We (a e s) (kOp f b e Q) := by
  unfold mOp; rw [We_bn]
  match a e s with
  | none => rfl
  | some (.ok x s1) =>
    show We (bn (b e s1) _) Q = We (b e s1) (kOp2 f x Q)
    rw [We_bn]
    match b e s1 with
    | none => rfl
    | some (.ok y s2) => exact We_lft
    | some (.ex _ _ _) => rfl
  | some (.ex _ _ _) => rfl
theorem w_kop : (kOp f b e Q).ok x s = We (b e s) (kOp2 f x Q) := rfl
theorem w_kopx : (kOp f b e Q).ex c fl s = Q.ex c fl s := rfl
theorem w_kop2 : (kOp2 f x Q).ok y s = Wp (f x y s) Q.ok := rfl
theorem w_kop2x : (kOp2 f x Q).ex c fl s = Q.ex c fl s := rfl
theorem w_un : We (mUn f1 a e s) Q = We (a e s) (kUn f1 Q) := by
  unfold mUn; rw [We_bn]
  match a e s with
  | none => rfl
  | some (.ok x s1) => exact We_lft
  | some (.ex _ _ _) => rfl
theorem w_kun : (kUn f1 Q).ok x s = Wp (f1 x s) Q.ok := rfl
theorem w_kunx : (kUn f1 Q).ex c fl s = Q.ex c fl s := rfl
theorem w_nil : We (mNil e s) QL = QL.ok [] s := rfl
theorem w_cons : We (mCons a A e s) QL = We (a e s) (kCons A e QL) := by
  unfold mCons; rw [We_bn]
  match a e s with
  | none => rfl
  | some (.ok x s1) =>
    show We (bn (A e s1) _) QL = We (A e s1) (kCons2 x QL)
    rw [We_bn]
    match A e s1 with
    | none => rfl
    | some (.ok y s2) => rfl
    | some (.ex _ _ _) => rfl
  | some (.ex _ _ _) => rfl
theorem w_kcons : (kCons A e QL).ok x s = We (A e s) (kCons2 x QL) := rfl
theorem w_kconsx : (kCons A e QL).ex c fl s = QL.ex c fl s := rfl
theorem w_kcons2 : (kCons2 x QL).ok xs s = QL.ok (x :: xs) s := rfl
theorem w_kcons2x : (kCons2 x QL).ex c fl s = QL.ex c fl s := rfl
theorem w_cb : We (mCB fs A e s) Q = We (A e s) (kCB fs Q) := by
  unfold mCB; rw [We_bn]
  match A e s with
  | none => rfl
  | some (.ok x s1) => exact We_lft
  | some (.ex _ _ _) => rfl
theorem w_kcb : (kCB fs Q).ok xs s = Wp (fs xs s) Q.ok := rfl
theorem w_kcbx : (kCB fs Q).ex c fl s = Q.ex c fl s := rfl
theorem w_call : We (mCall m dfl A e s) Q = We (A e s) (kCall m dfl Q) := by unfold mCall; rw [We_bn]; rfl
theorem w_kcall0 : (kCall m [] Q).ok xs s = We (m xs s) Q := by show We (m (xs ++ []) s) Q = _; rw [List.append_nil]
theorem w_kcallx : (kCall m dfl Q).ex c fl s = Q.ex c fl s := rfl
theorem w_c {v : V} : We (mC v e s) Q = Q.ok (.v v) s := rfl
theorem w_kon : We (mKon x e s) Q = Q.ok x s := rfl
theorem w_test : We (mTest a e s) QB = We (a e s) (kTest QB) := by
  unfold mTest; rw [We_bn]
  match a e s with
  | none => rfl
  | some (.ok x s1) =>
    show We _ QB = (kTest QB).ok x s1
    unfold kTest
    dsimp only
    cases bOf x <;> rfl
  | some (.ex _ _ _) => rfl
theorem w_ktest {d : Bool} : (kTest QB).ok (.v (.bl d)) s = QB.ok d s := rfl
theorem w_ktestx : (kTest QB).ex c fl s = QB.ex c fl s := rfl
theorem w_and : We (mAnd t u e s) QB = We (t e s) (kAnd u e QB) := by
  unfold mAnd; rw [We_bn]
  match t e s with
  | none => rfl
  | some (.ok true _) => rfl
  | some (.ok false _) => rfl
  | some (.ex _ _ _) => rfl
theorem w_kandT : (kAnd u e QB).ok true s = We (u e s) QB := rfl
theorem w_kandF : (kAnd u e QB).ok false s = QB.ok false s := rfl
theorem w_kandx : (kAnd u e QB).ex c fl s = QB.ex c fl s := rfl
theorem w_kandD {d : Prop} [Decidable d] : (kAnd u e QB).ok (decide d) s = if d then We (u e s) QB else QB.ok false s := by
  by_cases hd : d
  · rw [decide_eq_true hd, if_pos hd]; rfl
  · rw [decide_eq_false hd, if_neg hd]; rfl
theorem w_kandN {d : Prop} [Decidable d] : (kAnd u e QB).ok (!decide d) s = if d then QB.ok false s else We (u e s) QB := by
  by_cases hd : d
  · rw [decide_eq_true hd, if_pos hd]; rfl
  · rw [decide_eq_false hd, if_neg hd]; rfl
theorem w_or : We (mOr t u e s) QB = We (t e s) (kOr u e QB) := by
  unfold mOr; rw [We_bn]
  match t e s with
  | none => rfl
  | some (.ok true _) => rfl
  | some (.ok false _) => rfl
  | some (.ex _ _ _) => rfl
theorem w_korT : (kOr u e QB).ok true s = QB.ok true s := rfl
theorem w_korF : (kOr u e QB).ok false s = We (u e s) QB := rfl
theorem w_korx : (kOr u e QB).ex c fl s = QB.ex c fl s := rfl
theorem w_korD {d : Prop} [Decidable d] : (kOr u e QB).ok (decide d) s = if d then QB.ok true s else We (u e s) QB := by
  by_cases hd : d
  · rw [decide_eq_true hd, if_pos hd]; rfl
  · rw [decide_eq_false hd, if_neg hd]; rfl
theorem w_korN {d : Prop} [Decidable d] : (kOr u e QB).ok (!decide d) s = if d then We (u e s) QB else QB.ok true s := by
  by_cases hd : d
  · rw [decide_eq_true hd, if_pos hd]; rfl
  · rw [decide_eq_false hd, if_neg hd]; rfl
theorem w_not : We (mNot t e s) QB = We (t e s) (kNot QB) := by
  unfold mNot; rw [We_bn]
  match t e s with
  | none => rfl
  | some (.ok c _) => rfl
  | some (.ex _ _ _) => rfl
theorem w_knot {d : Bool} : (kNot QB).ok d s = QB.ok (!d) s := rfl
theorem w_knotx : (kNot QB).ex c fl s = QB.ex c fl s := rfl
theorem w_yes : We (mYes e s) QB = QB.ok true s := rfl
theorem w_andV : We (mAndV a b e s) Q = We (a e s) (kAndV b e Q) := by
  unfold mAndV; rw [We_bn]
  match a e s with
  | none => rfl
  | some (.ok x s1) =>
    show We _ Q = (kAndV b e Q).ok x s1
    unfold kAndV
    dsimp only
    cases h : bOf x with
    | none => rfl
    | some c => cases c <;> rfl
  | some (.ex _ _ _) => rfl
theorem w_kandVT : (kAndV b e Q).ok (.v (.bl true)) s = We (b e s) Q := rfl
theorem w_kandVF : (kAndV b e Q).ok (.v (.bl false)) s = Q.ok (.v (.bl false)) s := rfl
theorem w_kandVx : (kAndV b e Q).ex c fl s = Q.ex c fl s := rfl
theorem w_kandVD {d : Prop} [Decidable d] : (kAndV b e Q).ok (.v (.bl (decide d))) s = if d then We (b e s) Q else Q.ok (.v (.bl false)) s := by
  by_cases hd : d
  · rw [decide_eq_true hd, if_pos hd]; rfl
  · rw [decide_eq_false hd, if_neg hd]; rfl
theorem w_orV : We (mOrV a b e s) Q = We (a e s) (kOrV b e Q) := by
  unfold mOrV; rw [We_bn]
  match a e s with
  | none => rfl
  | some (.ok x s1) =>
    show We _ Q = (kOrV b e Q).ok x s1
    unfold kOrV
    dsimp only
    cases h : bOf x with
    | none => rfl
    | some c => cases c <;> rfl
  | some (.ex _ _ _) => rfl
theorem w_korVT : (kOrV b e Q).ok (.v (.bl true)) s = Q.ok (.v (.bl true)) s := rfl
theorem w_korVF : (kOrV b e Q).ok (.v (.bl false)) s = We (b e s) Q := rfl
theorem w_korVx : (kOrV b e Q).ex c fl s = Q.ex c fl s := rfl
theorem w_notV : We (mNotV a e s) Q = We (a e s) (kNotV Q) := by
  unfold mNotV; rw [We_bn]
  match a e s with
  | none => rfl
  | some (.ok x s1) =>
    show We _ Q = (kNotV Q).ok x s1
    unfold kNotV
    dsimp only
    cases h : bOf x with
    | none => rfl
    | some c => rfl
  | some (.ex _ _ _) => rfl
theorem w_knotV {d : Bool} : (kNotV Q).ok (.v (.bl d)) s = Q.ok (.v (.bl (!d))) s := rfl
theorem w_knotVx : (kNotV Q).ex c fl s = Q.ex c fl s := rfl
theorem w_if : We (mIf t a b e s) Q = We (t e s) (kIf a b e Q) := by
  unfold mIf; rw [We_bn]
  match t e s with
  | none => rfl
  | some (.ok true _) => rfl
  | some (.ok false _) => rfl
  | some (.ex _ _ _) => rfl
theorem w_kifET : (kIf a b e Q).ok true s = We (a e s) Q := rfl
theorem w_kifEF : (kIf a b e Q).ok false s = We (b e s) Q := rfl
theorem w_kifEx : (kIf a b e Q).ex c fl s = Q.ex c fl s := rfl
theorem w_kifED {d : Prop} [Decidable d] : (kIf a b e Q).ok (decide d) s = if d then We (a e s) Q else We (b e s) Q := by
  by_cases hd : d
  · rw [decide_eq_true hd, if_pos hd]; rfl
  · rw [decide_eq_false hd, if_neg hd]; rfl
theorem w_kifEN {d : Prop} [Decidable d] : (kIf a b e Q).ok (!decide d) s = if d then We (b e s) Q else We (a e s) Q := by
  by_cases hd : d
  · rw [decide_eq_true hd, if_pos hd]; rfl
  · rw [decide_eq_false hd, if_neg hd]; rfl
theorem w_tup : We (mTup A e s) Q = We (A e s) (kTup Q) := by
  unfold mTup; rw [We_bn]
  match A e s with
  | none => rfl
  | some (.ok x s1) => exact We_if
  | some (.ex _ _ _) => rfl
theorem w_ktupx : (kTup Q).ex c fl s = Q.ex c fl s := rfl
theorem w_lst : We (mLst A e s) Q = We (A e s) (kLst Q) := by
  unfold mLst; rw [We_bn]
  match A e s with
  | none => rfl
  | some (.ok x s1) => exact We_if
  | some (.ex _ _ _) => rfl
theorem w_klstx : (kLst Q).ex c fl s = Q.ex c fl s := rfl
theorem w_lstC : We (mLstC A e s) Q = We (A e s) (kLstC Q) := by
  unfold mLstC; rw [We_bn]
  match A e s with
  | none => rfl
  | some (.ok x s1) => exact We_if
  | some (.ex _ _ _) => rfl
theorem w_klstCx : (kLstC Q).ex c fl s = Q.ex c fl s := rfl
theorem w_ktup : (kTup Q).ok xs s = (xs.length ≤ 100000 ∧ Q.ok (.tup xs) s) := rfl
theorem w_klst : (kLst Q).ok xs s = (xs.length ≤ 100000 ∧ Q.ok (.lst xs) s) := rfl
theorem w_klstC : (kLstC Q).ok xs s = (xs.length ≤ 100000 ∧ Q.ok (.obj s.length) (s ++ [.lst xs])) := rfl
theorem w_dnew : We (mDNew e s) Q = Q.ok (.dic []) s := rfl
theorem w_dnewC : We (mDNewC e s) Q = Q.ok (.obj s.length) (s ++ [.dic []]) := rfl
theorem w_noPart : We (mNoPart e s) QO = QO.ok none s := rfl
theorem w_part : We (mPart a e s) QO = We (a e s) (kPart QO) := by
  unfold mPart; rw [We_bn]
  match a e s with
  | none => rfl
  | some (.ok x s1) =>
    show We _ QO = (kPart QO).ok x s1
    unfold kPart
    dsimp only
    cases h : iOf x <;> rfl
  | some (.ex _ _ _) => rfl
theorem w_kpart {i : Int} : (kPart QO).ok (.v (.int i)) s = QO.ok (some i) s := rfl
theorem w_sl : We (mSl f3 a l h e s) Q = We (a e s) (kSl f3 l h e Q) := by
  unfold mSl; rw [We_bn]
  match a e s with
  | none => rfl
  | some (.ok x s1) =>
    show We (bn (l e s1) _) Q = We (l e s1) (kSl2 f3 x h e Q)
    rw [We_bn]
    match l e s1 with
    | none => rfl
    | some (.ok y s2) =>
      show We (bn (h e s2) _) Q = We (h e s2) (kSl3 f3 x y Q)
      rw [We_bn]
      match h e s2 with
      | none => rfl
      | some (.ok z s3) => exact We_lft
      | some (.ex _ _ _) => rfl
    | some (.ex _ _ _) => rfl
  | some (.ex _ _ _) => rfl
theorem w_ksl : (kSl f3 l h e Q).ok x s = We (l e s) (kSl2 f3 x h e Q) := rfl
theorem w_ksl2 {i : Option Int} : (kSl2 f3 x h e Q).ok i s = We (h e s) (kSl3 f3 x i Q) := rfl
theorem w_ksl3 {i j : Option Int} : (kSl3 f3 x i Q).ok j s = Wp (f3 x i j s) Q.ok := rfl
theorem w_rest : We (mRest a e s) Q = We (a e s) (kRest Q) := by
  unfold mRest; rw [We_bn]
  match a e s with
  | none => rfl
  | some (.ok x s1) => exact We_lft
  | some (.ex _ _ _) => rfl
theorem w_krest : (kRest Q).ok x s = Wp (frz s x) Q.ok := rfl
theorem w_m1 : We (mM1 f a b e s) Q = We (a e s) (kM1 f b e Q) := by
  unfold mM1; rw [We_bn]
  match a e s with
  | none => rfl
  | some (.ok x s1) =>
    show We _ Q = (kM1 f b e Q).ok x s1
    unfold kM1
    dsimp only
    cases sOf x with
    | none => rfl
    | some z =>
      dsimp only
      rw [We_bn]
      match b e s1 with
      | none => rfl
      | some (.ok y s2) => exact We_lft
      | some (.ex _ _ _) => rfl
  | some (.ex _ _ _) => rfl
theorem w_km1 {z : Str} : (kM1 f b e Q).ok (.v (.str z)) s = We (b e s) (kM1b f (.v (.str z)) Q) := rfl
theorem w_km1b : (kM1b f x Q).ok y s = Wp (f x y s) Q.ok := rfl
theorem w_var {i : Nat} : We (mVar i e s) Q = kVar e[i]? Q s := by
  unfold mVar kVar
  match e[i]? with
  | none => rfl
  | some none => rfl
  | some (some d) => cases d <;> rfl
theorem kv_v {v : V} : kVar (some (some (.v v))) Q s = Q.ok (.v v) s := rfl
theorem kv_lst : kVar (some (some (.lst xs))) Q s = Q.ok (.lst xs) s := rfl
theorem kv_lsk : kVar (some (some (.lsk xs))) Q s = Q.ok (.lsk xs) s := rfl
theorem kv_tup : kVar (some (some (.tup xs))) Q s = Q.ok (.tup xs) s := rfl
theorem kv_tpk : kVar (some (some (.tpk xs))) Q s = Q.ok (.tpk xs) s := rfl
theorem kv_dic {ks : List (Key × D)} : kVar (some (some (.dic ks))) Q s = Q.ok (.dic ks) s := rfl
theorem kv_obj {n : Nat} : kVar (some (some (.obj n))) Q s = Q.ok (.obj n) s := rfl
theorem kv_ins {c : Str} {f : List (Str × D)} : kVar (some (some (.ins c f))) Q s = Q.ok (.ins c f) s := rfl
theorem kv_tb {f : Fds} {m : Mks} : kVar (some (some (tbD f m))) Q s = Q.ok (tbD f m) s := rfl
theorem kv_of {d : D} (nx : ∀ c fs, d ≠ .exn c fs) : kVar (some (some d)) Q s = Q.ok d s := by
  unfold kVar
  cases d <;> first | rfl | exact absurd rfl (nx _ _)
end
theorem w_loop {g : MG} {b : MS} {N : Nds} (P : Nat → EnvD → GS → Prop) : ∀ (ds : List D) (k : Nat) (e : EnvD) (s : GS), P k e s →
    (∀ i d e s, ds[i]? = some d → P (k + i) e s → Wp (g d e s) fun e s => Wt (b e s) {nx := P (k + i + 1), ct := P (k + i + 1), rt := N.rt, bk := N.nx, ex := N.ex}) →
    (∀ e s, P (k + ds.length) e s → N.nx e s) → Wt (mLoop g b ds e s) N
  | [], k, e, s, h, hs, hd => hd e s h
  | d :: r, k, e, s, h, hs, hd => by
    have h1 := hs 0 d e s rfl h
    show Wt (match g d e s with | some (e, s) => _ | none => _) N
    match hg : g d e s, h1 with
    | some (e1, s1), h1 =>
      have h1 : Wt (b e1 s1) {nx := P (k + 0 + 1), ct := P (k + 0 + 1), rt := N.rt, bk := N.nx, ex := N.ex} := h1
      have go : ∀ e s, P (k + 0 + 1) e s → Wt (mLoop g b r e s) N := fun e s h => w_loop P r (k + 1) e s h (fun i d e s hi hp => by
        have := hs (i + 1) d e s hi (by rw [← Nat.add_assoc, Nat.add_right_comm]; exact hp)
        rw [← Nat.add_assoc, Nat.add_right_comm k i 1] at this
        exact this) (fun e s hp => hd e s (by rw [List.length_cons, ← Nat.add_assoc, Nat.add_right_comm]; exact hp))
      show Wt (match b e1 s1 with | some (.nx e s) => _ | some (.ct e s) => _ | some (.bk e s) => _ | some (.rt d s) => _ | some (.ex c fs e s) => _ | none => _) N
      match hb : b e1 s1, h1 with
      | some (.nx e2 s2), h1 => exact go e2 s2 h1
      | some (.ct e2 s2), h1 => exact go e2 s2 h1
      | some (.bk e2 s2), h1 => exact h1
      | some (.rt d s2), h1 => exact h1
      | some (.ex c fs e2 s2), h1 => exact h1
/-- a loop over l.map k -/
theorem w_loopM {α : Type} {g : MG} {b : MS} {N : Nds} (P : Nat → EnvD → GS → Prop) {l : List α} {k : α → D} {e : EnvD} {s : GS} (h : P 0 e s)
    (hs : ∀ i a e s, l[i]? = some a → P i e s → Wp (g (k a) e s) fun e s => Wt (b e s) {nx := P (i + 1), ct := P (i + 1), rt := N.rt, bk := N.nx, ex := N.ex})
    (hd : ∀ e s, P l.length e s → N.nx e s) : Wt (mLoop g b (l.map k) e s) N := by
  refine w_loop P (l.map k) 0 e s h (fun i d e s hi hp => ?_) fun e s hp => hd e s (by rw [List.length_map, Nat.zero_add] at hp; exact hp)
  rw [List.getElem?_map] at hi
  obtain ⟨a, ha, rfl⟩ := Option.map_eq_some_iff.mp hi
  rw [Nat.zero_add] at hp ⊢
  exact hs i a e s ha hp
theorem w_fn {n N : Nat} {b : MS} {ds : List D} {st : GS} {Q : Kq D} : We (mFn n N b ds st) Q = (ds.length = n ∧ Wt (b (ds.map some ++ List.replicate (N - n) none) st) {nx := fun _ s => Q.ok (.v .non) s, rt := Q.ok, ex := fun c fs _ s => Q.ex c fs s}) := by
  unfold mFn
  rw [We_if]
  congr 1
  match b (ds.map some ++ List.replicate (N - n) none) st with
  | none => rfl
  | some (.nx _ _) => rfl
  | some (.rt _ _) => rfl
  | some (.bk _ _) => rfl
  | some (.ct _ _) => rfl
  | some (.ex _ _ _ _) => rfl
/-- nothing new is left -/
theorem w_gc0 {m : MF} {ds : List D} {st : GS} {Q : Kq D} (h : We (m ds st) ⟨fun d s => s.length = st.length ∧ Q.ok d s, fun _ _ _ => False⟩) : We (gcM m ds st) Q := by
  obtain ⟨d, s, e, hl, hq⟩ := h.get
  rw [gc_nil e hl]
  exact hq
theorem w_gc {m : MF} {ds : List D} {st : GS} {Q : Kq D} (h : We (m ds st) ⟨fun d s => ∃ s' tl, s = s' ++ tl ∧ s'.length = st.length ∧ Wf s' ∧ bdD st.length d = true ∧ Q.ok d s', fun _ _ _ => False⟩) : We (gcM m ds st) Q := by
  obtain ⟨d, s, e, s', tl, rfl, hl, wf, bd, hq⟩ := h.get
  rw [gc_wf e hl wf bd]
  exact hq
def kRng1 (Q : Kq (List D)) : Kq (List D) := ⟨fun xs s => match xs with
  | [.v (.int n)] => -100000 ≤ n ∧ n ≤ 100000 ∧ Q.ok (rng 0 n.toNat) s
  | _ => False, Q.ex⟩
def kEnum (Q : Kq (List D)) : Kq (List D) := ⟨fun xs s => We (mEnum (fun _ s => some (.ok xs s)) [] s) Q, Q.ex⟩
def kItems (Q : Kq (List D)) : Kq D := ⟨fun x s => match itemsOf x with
  | some ds => Q.ok ds s
  | none => False, Q.ex⟩
def kForA (o : Option (Option D)) (g : MG) (b : MS) (e : EnvD) (N : Nds) (s : GS) : Prop := match o with
  | some (some (.exn _ _)) => False
  | some (some (.dic ks)) => Wt (mLoop g b (keysD ks) e s) {N with ex := fun _ _ _ _ => False}
  | some (some d) => (kItems (kFor g b e N)).ok d s
  | _ => False
section
variable {e : EnvD} {s : GS} {N : Nds} {QL : Kq (List D)} {A : MA} {a : ME} {g : MG} {b : MS} {x : D} {xs ds : List D} {c : Str} {fl : List (Str × D)}
theorem w_rng1 : We (mRng1 A e s) QL = We (A e s) (kRng1 QL) := by
  unfold mRng1; rw [We_bn]
  match A e s with
  | none => rfl
  | some (.ex _ _ _) => rfl
  | some (.ok xs s1) =>
    show We _ QL = (kRng1 QL).ok xs s1
    unfold kRng1
    dsimp only
    split
    · rename_i n
      rw [We_if]
      exact propext ⟨fun h => ⟨h.1.1, h.1.2, h.2⟩, fun h => ⟨⟨h.1, h.2.1⟩, h.2.2⟩⟩
    · rename_i h1
      first
        | rfl
        | (split
           · exact absurd rfl (h1 _)
           · rfl)
theorem w_krng1 {n : Int} : (kRng1 QL).ok [.v (.int n)] s = (-100000 ≤ n ∧ n ≤ 100000 ∧ QL.ok (rng 0 n.toNat) s) := rfl
theorem w_krng1x : (kRng1 QL).ex c fl s = QL.ex c fl s := rfl
theorem w_enum : We (mEnum A e s) QL = We (A e s) (kEnum QL) := by
  show We (bn (A e s) _) QL = _
  rw [We_bn]
  rfl
theorem w_kenumS {z : Str} : (kEnum QL).ok [.v (.str z)] s = QL.ok (enumD (sgsD z.cps.toList)) s := rfl
theorem w_kenumL : (kEnum QL).ok [.lst ds] s = QL.ok (enumD ds) s := rfl
theorem w_kenumx : (kEnum QL).ex c fl s = QL.ex c fl s := rfl
theorem w_items : We (mItems a e s) QL = We (a e s) (kItems QL) := by
  unfold mItems; rw [We_bn]
  match a e s with
  | none => rfl
  | some (.ex _ _ _) => rfl
  | some (.ok x s1) =>
    show We _ QL = (kItems QL).ok x s1
    unfold kItems
    dsimp only
    cases itemsOf x <;> rfl
theorem w_kitemsS {z : Str} : (kItems QL).ok (.v (.str z)) s = QL.ok (sgsD z.cps.toList) s := rfl
theorem w_kitemsL : (kItems QL).ok (.lst ds) s = QL.ok ds s := rfl
theorem w_kitemsT : (kItems QL).ok (.tup ds) s = QL.ok ds s := rfl
theorem w_kitemsTk : (kItems QL).ok (.tpk ds) s = QL.ok ds s := rfl
theorem w_kitemsx : (kItems QL).ex c fl s = QL.ex c fl s := rfl
theorem Wt_nr {r : Option SR} : Wt (nrS r) N = Wt r {N with ex := fun _ _ _ _ => False} := by
  match r with
  | none => rfl
  | some (.nx _ _) => rfl
  | some (.rt _ _) => rfl
  | some (.bk _ _) => rfl
  | some (.ct _ _) => rfl
  | some (.ex _ _ _ _) => rfl
theorem w_forA {i : Nat} : Wt (mForA i g b e s) N = kForA e[i]? g b e N s := by
  unfold mForA kForA
  cases h : e[i]? with
  | none =>
    have : mVar i e s = none := by unfold mVar; rw [h]
    rw [this]
    dsimp only
    rw [w_for, w_items, We_none this]
  | some o =>
    cases o with
    | none =>
      have : mVar i e s = none := by unfold mVar; rw [h]
      rw [this]
      dsimp only
      rw [w_for, w_items, We_none this]
    | some d =>
      by_cases hx : ∃ c fs, d = .exn c fs
      · obtain ⟨c, fs, rfl⟩ := hx
        have : mVar i e s = none := by unfold mVar; rw [h]
        rw [this]
        dsimp only
        rw [w_for, w_items, We_none this]
      · have hv : mVar i e s = some (.ok d s) := mVar_of h fun c fs z => hx ⟨c, fs, z⟩
        rw [hv]
        cases d with
        | dic ks => exact Wt_nr
        | exn c fs => exact absurd ⟨c, fs, rfl⟩ hx
        | _ =>
          dsimp only
          rw [w_for, w_items, hv]
          rfl
theorem kfa_str {z : Str} : kForA (some (some (.v (.str z)))) g b e N s = Wt (mLoop g b (sgsD z.cps.toList) e s) N := rfl
theorem kfa_lst : kForA (some (some (.lst ds))) g b e N s = Wt (mLoop g b ds e s) N := rfl
theorem kfa_tup : kForA (some (some (.tup ds))) g b e N s = Wt (mLoop g b ds e s) N := rfl
theorem kfa_dic {ks : List (Key × D)} : kForA (some (some (.dic ks))) g b e N s = Wt (mLoop g b (keysD ks) e s) {N with ex := fun _ _ _ _ => False} := rfl
end
def kAppX (r : MA) (e : EnvD) (Q : Kq D) (x : D) (s : GS) : Prop := We (mApp (mKon x) r e s) Q
def kApp (r : MA) (e : EnvD) (Q : Kq D) : Kq D := ⟨kAppX r e Q, Q.ex⟩
def kApp2 (n : Nat) (Q : Kq D) : Kq (List D) := ⟨fun ys s => match ys, s[n]? with
  | [y], some (.lst ds) => ds.length < 100000 ∧ Q.ok (.v .non) (s.set n (.lst (ds ++ [y])))
  | _, _ => False, Q.ex⟩
def kPropX (c : Str) (m : MF) (Q : Kq D) (x : D) (s : GS) : Prop := We (mProp c m (mKon x) [] s) Q
def kProp (c : Str) (m : MF) (Q : Kq D) : Kq D := ⟨kPropX c m Q, Q.ex⟩
def kCallOX (c : Str) (m : MF) (A : MA) (e : EnvD) (Q : Kq D) (x : D) (s : GS) : Prop := We (mCallO c m (mKon x) A e s) Q
def kCallO (c : Str) (m : MF) (A : MA) (e : EnvD) (Q : Kq D) : Kq D := ⟨kCallOX c m A e Q, Q.ex⟩
def kCallO2 (m : MF) (x : D) (Q : Kq D) : Kq (List D) := ⟨fun ds s => We (m (x :: ds) s) Q, Q.ex⟩
def kFldX (cs : List Str) (f : Str) (Q : Kq D) (x : D) (s : GS) : Prop := We (mFld cs f (mKon x) [] s) Q
def kFld (cs : List Str) (f : Str) (Q : Kq D) : Kq D := ⟨kFldX cs f Q, Q.ex⟩
def kRevX (Q : Kq D) (x : D) (s : GS) : Prop := We (mRevA (mKon x) [] s) Q
def kRev (Q : Kq D) : Kq D := ⟨kRevX Q, Q.ex⟩
def kDG2X (b c : ME) (e : EnvD) (Q : Kq D) (x : D) (s : GS) : Prop := We (mDGet2 (mKon x) b c e s) Q
def kDG2 (b c : ME) (e : EnvD) (Q : Kq D) : Kq D := ⟨kDG2X b c e Q, Q.ex⟩
def kDG2c (ks : List (Key × D)) (y : D) (Q : Kq D) : Kq D := ⟨fun z s => match kOf y with
  | some k => Q.ok ((valD ks k).getD z) s
  | none => False, Q.ex⟩
def kDG2b (ks : List (Key × D)) (c : ME) (e : EnvD) (Q : Kq D) : Kq D := ⟨fun y s => We (c e s) (kDG2c ks y Q), Q.ex⟩
def kMake (c : Str) (m : MF) (dfl : List D) (Q : Kq D) : Kq (List D) := ⟨fun ds s => We (m (.obj s.length :: (ds ++ dfl)) (s ++ [.ins c []])) (kMake2 c s.length Q), Q.ex⟩
section
variable {e : EnvD} {s : GS} {N : Nds} {Q : Kq D} {QL : Kq (List D)} {A r : MA} {a b c' : ME} {g : MG} {x y z : D} {xs ds : List D} {c : Str} {fl : List (Str × D)} {m : MF} {n : Nat} {fs : Fds} {ms : Mks} {ks : List (Key × D)}
theorem w_app : We (mApp a r e s) Q = We (a e s) (kApp r e Q) := by unfold mApp; rw [We_bn]; rfl
theorem w_kapp0 : (kApp r e Q).ok x s = kAppX r e Q x s := rfl
theorem w_kappx : (kApp r e Q).ex c fl s = Q.ex c fl s := rfl
theorem w_kapp2x : (kApp2 n Q).ex c fl s = Q.ex c fl s := rfl
theorem w_prop : We (mProp c m a e s) Q = We (a e s) (kProp c m Q) := by unfold mProp; rw [We_bn]; rfl
theorem w_kprop0 : (kProp c m Q).ok x s = kPropX c m Q x s := rfl
theorem We_nr : We (nrM m ds s) Q = We (m ds s) ⟨Q.ok, fun _ _ _ => False⟩ := by
  unfold nrM
  match m ds s with
  | none => rfl
  | some (.ok _ _) => rfl
  | some (.ex _ _ _) => rfl
theorem w_kpropT : kPropX "Table" m Q (tbD fs ms) s = We (m [tbD fs ms] s) ⟨Q.ok, fun _ _ _ => False⟩ := by
  show We (if "Table" = "Table" then nrM m [tbD fs ms] s else none) Q = _
  rw [if_pos rfl, We_nr]
theorem w_callO : We (mCallO c m a A e s) Q = We (a e s) (kCallO c m A e Q) := by unfold mCallO; rw [We_bn]; rfl
theorem w_kcallO0 : (kCallO c m A e Q).ok x s = kCallOX c m A e Q x s := rfl
theorem w_kcallOx : (kCallO c m A e Q).ex c fl s = Q.ex c fl s := rfl
theorem w_kcallOT : kCallOX "Table" m A e Q (tbD fs ms) s = We (A e s) (kCallO2 m (tbD fs ms) Q) := by
  show We (bn (A e s) fun ds s => if "Table" = "Table" then m (tbD fs ms :: ds) s else none) Q = _
  rw [We_bn]
  congr 1
theorem w_kcallO2 : (kCallO2 m x Q).ok ds s = We (m (x :: ds) s) Q := rfl
theorem w_kcallO2x : (kCallO2 m x Q).ex c fl s = Q.ex c fl s := rfl
theorem w_fld {cs : List Str} {f : Str} : We (mFld cs f a e s) Q = We (a e s) (kFld cs f Q) := by unfold mFld; rw [We_bn]; rfl
theorem w_kfld0 {cs : List Str} {f : Str} : (kFld cs f Q).ok x s = kFldX cs f Q x s := rfl
theorem w_kfldx {cs : List Str} {f : Str} : (kFld cs f Q).ex c fl s = Q.ex c fl s := rfl
theorem w_kfldF : kFldX ["Table"] "_folds" Q (tbD fs ms) s = Q.ok (.dic (dF fs)) s := rfl
theorem w_kfldM : kFldX ["Speller", "Table"] "_marks" Q (tbD fs ms) s = Q.ok (.dic (dM ms)) s := rfl
theorem w_rev : We (mRevA a e s) Q = We (a e s) (kRev Q) := by unfold mRevA; rw [We_bn]; rfl
theorem w_krev0 : (kRev Q).ok x s = kRevX Q x s := rfl
theorem w_krevx : (kRev Q).ex c fl s = Q.ex c fl s := rfl
theorem w_krevL : kRevX Q (.lst ds) s = Q.ok (.lst ds.reverse) s := rfl
theorem w_dg2 : We (mDGet2 a b c' e s) Q = We (a e s) (kDG2 b c' e Q) := by unfold mDGet2; rw [We_bn]; rfl
theorem w_kdg20 : (kDG2 b c' e Q).ok x s = kDG2X b c' e Q x s := rfl
theorem w_kdg2x : (kDG2 b c' e Q).ex c fl s = Q.ex c fl s := rfl
theorem w_kdg2d : kDG2X b c' e Q (.dic ks) s = We (b e s) (kDG2b ks c' e Q) := by
  show We (bn (b e s) fun y s => bn (c' e s) fun z s => _) Q = _
  rw [We_bn]
  congr 1
  refine Kq_ext (fun y s1 => ?_) fun _ _ _ => rfl
  show We (bn (c' e s1) fun z s => _) Q = We (c' e s1) (kDG2c ks y Q)
  rw [We_bn]
  congr 1
  refine Kq_ext (fun z s2 => ?_) fun _ _ _ => rfl
  show We (match dvw s2 (.dic ks), kOf y with | some ks, some k => _ | _, _ => none) Q = match kOf y with | some k => _ | none => False
  cases kOf y <;> rfl
theorem w_make {dfl : List D} : We (mMake c m dfl A e s) Q = We (A e s) (kMake c m dfl Q) := by
  unfold mMake
  rw [We_bn]
  congr 1
  refine Kq_ext (fun ds s1 => ?_) fun _ _ _ => rfl
  show We (bn (m (.obj s1.length :: (ds ++ dfl)) (s1 ++ [.ins c []])) _) Q = We (m (.obj s1.length :: (ds ++ dfl)) (s1 ++ [.ins c []])) (kMake2 c s1.length Q)
  rw [We_bn]
  congr 1
  refine Kq_ext (fun r s2 => ?_) fun _ _ _ => rfl
  unfold kMake2
  dsimp only
  split <;> first | rfl | (split <;> first | rfl | contradiction)
theorem w_kmake0 : (kMake c m [] Q).ok ds s = We (m (.obj s.length :: ds) (s ++ [.ins c []])) (kMake2 c s.length Q) := by show We (m (_ :: (ds ++ [])) _) _ = _; rw [List.append_nil]
theorem w_kmake2 : (kMake2 c n Q).ok (.v .non) s = Q.ok (.obj n) s := rfl
theorem w_frzIns {f : List (Str × D)} {q : D → GS → Prop} : Wp (frz (s ++ [.ins c f]) (.obj s.length)) q = q (.ins c f) (s ++ [.free]) := by
  have h1 : (s ++ [Cell.ins c f])[s.length]? = some (.ins c f) := by rw [List.getElem?_append_right (Nat.le_refl _), Nat.sub_self]; rfl
  have h2 : (s ++ [Cell.ins c f]).set s.length .free = s ++ [.free] := by rw [List.set_append_right _ _ (Nat.le_refl _), Nat.sub_self]; rfl
  show Wp (match (s ++ [Cell.ins c f])[s.length]? with | some c => (restD c).map fun d' => (d', (s ++ [Cell.ins _ f]).set s.length .free) | none => none) q = _
  rw [h1]
  show q (.ins c f) ((s ++ [Cell.ins c f]).set s.length .free) = _
  rw [h2]
def kFrz (o : Option (Option D)) (i : Nat) (p : MS) (e : EnvD) (N : Nds) (s : GS) : Prop := match o with
  | some (some (.exn _ _)) => False
  | some (some d) => Wp (frz s d) fun d' s => Wt (p (e.set i (some d')) s) N
  | _ => False
theorem w_frz {i : Nat} {p : MS} : Wt (mFrz i p e s) N = kFrz e[i]? i p e N s := by
  unfold mFrz kFrz
  match e[i]? with
  | none => rfl
  | some none => rfl
  | some (some d) =>
    cases d <;> first | rfl | (dsimp only; split <;> (rename_i h; rw [h]; rfl))
theorem w_kdg2b : (kDG2b ks c' e Q).ok y s = We (c' e s) (kDG2c ks y Q) := rfl
theorem w_kdg2cS {k : Str} : (kDG2c ks (.v (.str k)) Q).ok z s = Q.ok ((valD ks (.inr k)).getD z) s := rfl
theorem w_kdg2cI {k : Int} : (kDG2c ks (.v (.int k)) Q).ok z s = Q.ok ((valD ks (.inl k)).getD z) s := rfl
end
end Nm
local macro_rules | `(tactic| simp only [wW, $xs,*]) => `(tactic| simp only [Nm.w_seq, Nm.w_kseq, Nm.w_kseqr, Nm.w_kseqb, Nm.w_kseqc, Nm.w_kseqx, Nm.w_next, Nm.w_brk, Nm.w_cnt, Nm.w_drop, Nm.w_kdrop, Nm.w_kdropx, Nm.w_ret, Nm.w_kret, Nm.w_kretx, Nm.w_retN, Nm.w_ifS, Nm.w_kifT, Nm.w_kifF, Nm.w_kifD, Nm.w_kifN, Nm.w_kifx, Nm.w_asg, Nm.w_kasg, Nm.w_mgNil, Nm.w_mgCons, Nm.w_kgs, Nm.w_mgTup, Nm.w_mgTupK, Nm.w_mgN, Nm.w_kasgx, Nm.w_par, Nm.w_kpar, Nm.w_par3, Nm.w_kpar3, Nm.w_kfor, Nm.w_raise, Nm.w_kraise1, Nm.w_try, Nm.w_ktry, Nm.w_ktryr, Nm.w_ktryx, Nm.w_catch, Nm.w_catch0, Nm.w_kend, Nm.w_kendr, Nm.w_op, Nm.w_kop, Nm.w_kopx, Nm.w_kop2, Nm.w_kop2x, Nm.w_un, Nm.w_kun, Nm.w_kunx, Nm.w_nil, Nm.w_cons, Nm.w_kcons, Nm.w_kconsx, Nm.w_kcons2, Nm.w_kcons2x, Nm.w_cb, Nm.w_kcb, Nm.w_kcbx, Nm.w_call, Nm.w_kcall0, Nm.w_kcallx, Nm.w_c, Nm.w_kon, Nm.w_test, Nm.w_ktest, Nm.w_ktestx, Nm.w_and, Nm.w_kandT, Nm.w_kandF, Nm.w_kandx, Nm.w_kandD, Nm.w_kandN, Nm.w_or, Nm.w_korT, Nm.w_korF, Nm.w_korx, Nm.w_korD, Nm.w_korN, Nm.w_not, Nm.w_knot, Nm.w_knotx, Nm.w_yes, Nm.w_andV, Nm.w_kandVT, Nm.w_kandVF, Nm.w_kandVx, Nm.w_kandVD, Nm.w_orV, Nm.w_korVT, Nm.w_korVF, Nm.w_korVx, Nm.w_notV, Nm.w_knotV, Nm.w_knotVx, Nm.w_if, Nm.w_kifET, Nm.w_kifEF, Nm.w_kifEx, Nm.w_kifED, Nm.w_kifEN, Nm.w_tup, Nm.w_ktupx, Nm.w_lst, Nm.w_klstx, Nm.w_lstC, Nm.w_klstCx, Nm.w_ktup, Nm.w_klst, Nm.w_klstC, Nm.w_dnew, Nm.w_dnewC, Nm.w_noPart, Nm.w_part, Nm.w_kpart, Nm.w_sl, Nm.w_ksl, Nm.w_ksl2, Nm.w_ksl3, Nm.w_rest, Nm.w_krest, Nm.w_m1, Nm.w_km1, Nm.w_km1b, Nm.w_rng1, Nm.w_krng1, Nm.w_krng1x, Nm.w_enum, Nm.w_kenumS, Nm.w_kenumL, Nm.w_kenumx, Nm.w_items, Nm.w_kitemsS, Nm.w_kitemsL, Nm.w_kitemsT, Nm.w_kitemsTk, Nm.w_kitemsx, Nm.w_forA, Nm.kfa_str, Nm.kfa_lst, Nm.kfa_tup, Nm.kfa_dic, Nm.w_make, Nm.w_kmake0, Nm.w_kmake2, Nm.w_frzIns, Nm.w_frz, Nm.w_app, Nm.w_kapp0, Nm.w_kappx, Nm.w_kapp2x, Nm.w_prop, Nm.w_kprop0, Nm.w_kpropT, Nm.w_callO, Nm.w_kcallO0, Nm.w_kcallOx, Nm.w_kcallOT, Nm.w_kcallO2, Nm.w_kcallO2x, Nm.w_fld, Nm.w_kfld0, Nm.w_kfldx, Nm.w_kfldF, Nm.w_kfldM, Nm.w_rev, Nm.w_krev0, Nm.w_krevx, Nm.w_krevL, Nm.w_dg2, Nm.w_kdg20, Nm.w_kdg2x, Nm.w_kdg2d, Nm.w_kdg2b, Nm.w_kdg2cS, Nm.w_kdg2cI, Nm.We_ok, Nm.We_ex, Nm.Wp_some, Nm.Wt_nx, Nm.Wt_rt, Nm.w_var, Nm.kv_v, Nm.kv_lst, Nm.kv_lsk, Nm.kv_tup, Nm.kv_tpk, Nm.kv_dic, Nm.kv_obj, Nm.kv_ins, Nm.kv_tb, Nm.w_for, List.set_cons_zero, List.set_cons_succ, List.getElem?_cons_zero, List.getElem?_cons_succ, Bool.not_true, Bool.not_false, if_true, if_false, ite_true, ite_false, reduceIte, true_and, and_true, List.length_cons, List.length_nil, List.map_cons, List.map_nil, List.cons_append, List.nil_append, List.replicate_succ, List.replicate_zero, Nat.zero_le, Nat.zero_add, Nat.reduceAdd, Nat.reduceLeDiff, $xs,*])
local macro_rules | `(tactic| simp only [wW]) => `(tactic| simp only [Nm.w_seq, Nm.w_kseq, Nm.w_kseqr, Nm.w_kseqb, Nm.w_kseqc, Nm.w_kseqx, Nm.w_next, Nm.w_brk, Nm.w_cnt, Nm.w_drop, Nm.w_kdrop, Nm.w_kdropx, Nm.w_ret, Nm.w_kret, Nm.w_kretx, Nm.w_retN, Nm.w_ifS, Nm.w_kifT, Nm.w_kifF, Nm.w_kifD, Nm.w_kifN, Nm.w_kifx, Nm.w_asg, Nm.w_kasg, Nm.w_mgNil, Nm.w_mgCons, Nm.w_kgs, Nm.w_mgTup, Nm.w_mgTupK, Nm.w_mgN, Nm.w_kasgx, Nm.w_par, Nm.w_kpar, Nm.w_par3, Nm.w_kpar3, Nm.w_kfor, Nm.w_raise, Nm.w_kraise1, Nm.w_try, Nm.w_ktry, Nm.w_ktryr, Nm.w_ktryx, Nm.w_catch, Nm.w_catch0, Nm.w_kend, Nm.w_kendr, Nm.w_op, Nm.w_kop, Nm.w_kopx, Nm.w_kop2, Nm.w_kop2x, Nm.w_un, Nm.w_kun, Nm.w_kunx, Nm.w_nil, Nm.w_cons, Nm.w_kcons, Nm.w_kconsx, Nm.w_kcons2, Nm.w_kcons2x, Nm.w_cb, Nm.w_kcb, Nm.w_kcbx, Nm.w_call, Nm.w_kcall0, Nm.w_kcallx, Nm.w_c, Nm.w_kon, Nm.w_test, Nm.w_ktest, Nm.w_ktestx, Nm.w_and, Nm.w_kandT, Nm.w_kandF, Nm.w_kandx, Nm.w_kandD, Nm.w_kandN, Nm.w_or, Nm.w_korT, Nm.w_korF, Nm.w_korx, Nm.w_korD, Nm.w_korN, Nm.w_not, Nm.w_knot, Nm.w_knotx, Nm.w_yes, Nm.w_andV, Nm.w_kandVT, Nm.w_kandVF, Nm.w_kandVx, Nm.w_kandVD, Nm.w_orV, Nm.w_korVT, Nm.w_korVF, Nm.w_korVx, Nm.w_notV, Nm.w_knotV, Nm.w_knotVx, Nm.w_if, Nm.w_kifET, Nm.w_kifEF, Nm.w_kifEx, Nm.w_kifED, Nm.w_kifEN, Nm.w_tup, Nm.w_ktupx, Nm.w_lst, Nm.w_klstx, Nm.w_lstC, Nm.w_klstCx, Nm.w_ktup, Nm.w_klst, Nm.w_klstC, Nm.w_dnew, Nm.w_dnewC, Nm.w_noPart, Nm.w_part, Nm.w_kpart, Nm.w_sl, Nm.w_ksl, Nm.w_ksl2, Nm.w_ksl3, Nm.w_rest, Nm.w_krest, Nm.w_m1, Nm.w_km1, Nm.w_km1b, Nm.w_rng1, Nm.w_krng1, Nm.w_krng1x, Nm.w_enum, Nm.w_kenumS, Nm.w_kenumL, Nm.w_kenumx, Nm.w_items, Nm.w_kitemsS, Nm.w_kitemsL, Nm.w_kitemsT, Nm.w_kitemsTk, Nm.w_kitemsx, Nm.w_forA, Nm.kfa_str, Nm.kfa_lst, Nm.kfa_tup, Nm.kfa_dic, Nm.w_make, Nm.w_kmake0, Nm.w_kmake2, Nm.w_frzIns, Nm.w_frz, Nm.w_app, Nm.w_kapp0, Nm.w_kappx, Nm.w_kapp2x, Nm.w_prop, Nm.w_kprop0, Nm.w_kpropT, Nm.w_callO, Nm.w_kcallO0, Nm.w_kcallOx, Nm.w_kcallOT, Nm.w_kcallO2, Nm.w_kcallO2x, Nm.w_fld, Nm.w_kfld0, Nm.w_kfldx, Nm.w_kfldF, Nm.w_kfldM, Nm.w_rev, Nm.w_krev0, Nm.w_krevx, Nm.w_krevL, Nm.w_dg2, Nm.w_kdg20, Nm.w_kdg2x, Nm.w_kdg2d, Nm.w_kdg2b, Nm.w_kdg2cS, Nm.w_kdg2cI, Nm.We_ok, Nm.We_ex, Nm.Wp_some, Nm.Wt_nx, Nm.Wt_rt, Nm.w_var, Nm.kv_v, Nm.kv_lst, Nm.kv_lsk, Nm.kv_tup, Nm.kv_tpk, Nm.kv_dic, Nm.kv_obj, Nm.kv_ins, Nm.kv_tb, Nm.w_for, List.set_cons_zero, List.set_cons_succ, List.getElem?_cons_zero, List.getElem?_cons_succ, Bool.not_true, Bool.not_false, if_true, if_false, ite_true, ite_false, reduceIte, true_and, and_true, List.length_cons, List.length_nil, List.map_cons, List.map_nil, List.cons_append, List.nil_append, List.replicate_succ, List.replicate_zero, Nat.zero_le, Nat.zero_add, Nat.reduceAdd, Nat.reduceLeDiff])
set_option Elab.async false
set_option linter.all false
set_option maxRecDepth 100000
set_option maxHeartbeats 4000000
set_option Elab.async false
set_option linter.all false
set_option maxRecDepth 100000
set_option maxHeartbeats 4000000
set_option Elab.async false
set_option linter.all false
set_option maxRecDepth 100000
set_option maxHeartbeats 4000000
namespace Nm
open PySem PySem.Spec PyProof.Rows L2 Evl
section
variable {s : GS} {fs : Fds} {ms : Mks} {l x : List Nat}
theorem We.eq {α : Type} {r : RO α} {d : α} {s s0 : GS} (h : We r ⟨fun x s' => x = d ∧ s' = s, fun _ _ _ => False⟩) : r = some (.ok d s) := by
  obtain ⟨x, s', e, rfl, rfl⟩ := h.get
  exact e
def cF' (fs : Fds) (l : List Nat) : Nat := (l.filter fun c => (lk fs c).isSome).length
def mu (fs : Fds) (ms : Mks) (l : List Nat) : Nat := 700 * cF' fs l + falls ms l
end
end Nm
set_option Elab.async false
set_option linter.all false
set_option maxRecDepth 100000
set_option maxHeartbeats 4000000
set_option Elab.async false
set_option linter.all false
set_option maxRecDepth 100000
set_option maxHeartbeats 8000000
set_option Elab.async false
set_option linter.all false
namespace Nm
section
variable {fs : Fds} {ms : Mks} {sg : List Nat} {l a b w r v : List Nat} {c : Nat}
def bhV (ms : Mks) : List Nat → List Nat → Option (List Nat)
  | r, [] => some r
  | r, c :: w => (bhR ms r c).bind fun r' => bhV ms r' w
/-- what is left behind a sign of a word -/
def stp (fs : Fds) (ms : Mks) (r : List Nat) (c : Nat) : Option (List Nat) := bhV ms r (foldC fs c)
/-- what is left behind a word of signs -/
def rd (fs : Fds) (ms : Mks) : List Nat → List Nat → Option (List Nat)
  | r, [] => some r
  | r, c :: w => (stp fs ms r c).bind fun r' => rd fs ms r' w
/-- every fold has at least one sign -/
def FwOk (fs : Fds) : Prop := ∀ c, 1 ≤ (foldC fs c).length
def cnt (fs : Fds) (ms : Mks) (sg : List Nat) : Nat → List Nat → Nat
  | 0, r => if r = [] then 1 else 0
  | n + 1, r => (sg.map fun c => match stp fs ms r c with
    | some a => cnt fs ms sg n a
    | none => 0).sum
def spl (fs : Fds) (ms : Mks) (sg : List Nat) : Nat → List Nat → List (List Nat)
  | 0, r => if r = [] then [[]] else []
  | n + 1, r => sg.flatMap fun c => match stp fs ms r c with
    | some a => (spl fs ms sg n a).map (c :: ·)
    | none => []
def ltL : List Nat → List Nat → Prop
  | [], [] => False
  | [], _ :: _ => True
  | _ :: _, [] => False
  | a :: u, b :: v => a < b ∨ (a = b ∧ ltL u v)
def frT (ms : Mks) : List Int → List Nat → List Nat
  | _, [] => []
  | cl, c :: r => match lk ms c with
    | none => []
    | some k => if k ∈ cl then frT ms (cl ++ [k]) r else c :: frT ms (cl ++ [k]) r
def frL (ms : Mks) : List Nat → List Nat
  | [] => []
  | c :: r => match lk ms c with
    | none => [c]
    | some k => c :: frT ms [k] r
end
end Nm
set_option Elab.async false
set_option linter.all false
namespace Nm
def dd {α : Type} [DecidableEq α] (l : List α) : List α := l.foldl (fun acc x => if x ∈ acc then acc else acc ++ [x]) []
section
variable {fs : Fds} {ms : Mks} {sg so : List Nat} {l a b w r v : List Nat} {c f : Nat}
def wdsL (fs : Fds) (sg : List Nat) : List (List Nat) := dd (sg.map (foldC fs))
def sgOf (fs : Fds) (sg : List Nat) (w : List Nat) : List Nat := sg.filter fun c => decide (foldC fs c = w)
def wdOf (fs : Fds) (sg : List Nat) (f : Nat) : List (List Nat) := (wdsL fs sg).filter fun w => decide (w.take 1 = [f])
def wsR (fs : Fds) (ms : Mks) (sg r : List Nat) : List (List Nat) := (frL ms r).flatMap (wdOf fs sg)
def partsL (fs : Fds) (ms : Mks) (sg r : List Nat) : List (List Nat × List Nat) := (wsR fs ms sg r).filterMap fun w => (bhV ms r w).map fun a => (sgOf fs sg w, a)
end
end Nm
set_option Elab.async false
set_option linter.all false
set_option Elab.async false
set_option linter.all false
set_option maxRecDepth 100000
set_option maxHeartbeats 8000000
set_option Elab.async false
set_option linter.all false
set_option maxRecDepth 100000
set_option maxHeartbeats 4000000
set_option Elab.async false
set_option linter.all false
set_option maxRecDepth 100000
set_option maxHeartbeats 8000000
namespace Nm
open PySem PySem.Spec PyProof.Rows L2 Evl
def spF (ms : Mks) (i1 i2 i3 i4 i5 : Nat) : List (Str × D) := [("_marks", .dic (dM ms)), ("_signs", .obj i1), ("_words", .obj i2), ("_parts", .obj i3), ("_tallies", .obj i4), ("_lists", .obj i5)]
/-- what a speller is told -/
structure SpC where
  fs : Fds
  ms : Mks
  sg : List Nat
  so : List Nat
  S : List (List Nat)
  n : Nat
  i1 : Nat
  i2 : Nat
  i3 : Nat
  i4 : Nat
  i5 : Nat
structure SpC.Ok (c : SpC) : Prop where
  ro : RuleOk c.fs c.ms
  nd : c.sg.Nodup
  pm : c.sg.Perm c.so
  up : c.so.Pairwise (· < ·)
  sgn : ∀ x ∈ c.sg, sgn x = true
  sl : c.sg.length ≤ 100
  nil : [] ∈ c.S
  cl : ∀ r ∈ c.S, ∀ w a, bhV c.ms r w = some a → a ∈ c.S
  le : ∀ r ∈ c.S, r.length ≤ 40
  sgr : ∀ r ∈ c.S, ∀ x ∈ r, Nm.sgn x = true
  len : c.S.length ≤ 50000
  o1 : c.n < c.i1
  o2 : c.i1 < c.i2
  o3 : c.i2 < c.i3
  o4 : c.i3 < c.i4
  o5 : c.i4 < c.i5
def memo (f : List Nat → D) (l : List (List Nat)) : List (Key × D) := l.map fun r => (Sum.inr (stL r), f r)
def prtD (p : List Nat × List Nat) : D := .tup [.lst (sgsD p.1), .v (.str (stL p.2))]
namespace SpC
variable (c : SpC)
def prts (r : List Nat) : List (List Nat × List Nat) := partsL c.fs c.ms c.sg r
def cn (n : Nat) (r : List Nat) : Nat := cnt c.fs c.ms c.sg n r
def sp (n : Nat) (r : List Nat) : List (List Nat) := spl c.fs c.ms c.so n r
def partD (r : List Nat) : D := .lst ((c.prts r).map prtD)
def lsF (f : Nat → Nat) (m : Nat) : List D := (List.range m).map fun k => .v (.int (f k : Nat))
def talD (r : List Nat) : D := .lst (lsF (fun k => c.cn k r) (r.length + 1))
def kyT (q : List Nat × Nat) : List Key := [.inr (stL q.1), .inl (q.2 : Nat)]
def memoT (l : List (List Nat × Nat)) : List (List Key × D) := l.map fun q => (kyT q, .lst (txD (c.sp q.2 q.1)))
def sgDic : List (Key × D) := (wdsL c.fs c.sg).map fun w => (.inr (stL w), .lst (sgsD (sgOf c.fs c.sg w)))
def hds : List Nat := dd ((wdsL c.fs c.sg).map fun w => w.headD 0)
def wdDic : List (Key × D) := c.hds.map fun f => (.inr (sgS f), .lst (txD (wdOf c.fs c.sg f)))
end SpC
structure SpS (c : SpC) (s : GS) (B : Nat) : Prop where
  ins : s[c.n]? = some (.ins "Speller" (spF c.ms c.i1 c.i2 c.i3 c.i4 c.i5))
  c1 : s[c.i1]? = some (.dic c.sgDic)
  c2 : s[c.i2]? = some (.dic c.wdDic)
  ps : ∃ P, s[c.i3]? = some (.dic (memo c.partD P)) ∧ P.Nodup ∧ ∀ r ∈ P, r ∈ c.S
  ts : ∃ T, s[c.i4]? = some (.dic (memo c.talD T)) ∧ T.Nodup ∧ (∀ r ∈ T, r ∈ c.S) ∧ [] ∈ T
  ls : ∃ L, s[c.i5]? = some (.dit (c.memoT L)) ∧ L.length ≤ B ∧ ([], 0) ∈ L
/-- nothing but what is remembered has changed -/
structure Sm (c : SpC) (s s' : GS) : Prop where
  old : ∀ j, j ≠ c.i3 → j ≠ c.i4 → j ≠ c.i5 → s'[j]? = s[j]?
  len : s'.length = s.length
theorem Sm.refl (c : SpC) (s : GS) : Sm c s s := ⟨fun _ _ _ _ => rfl, rfl⟩
theorem Sm.trans {c : SpC} {s t u : GS} (h : Sm c s t) (k : Sm c t u) : Sm c s u := ⟨fun j a b d => (k.old j a b d).trans (h.old j a b d), k.len.trans h.len⟩
section
variable {c : SpC} {s s' : GS} {B : Nat} {r w a : List Nat} {x : Nat}
theorem fw_of {fs : Fds} {ms : Mks} (ro : RuleOk fs ms) : FwOk fs := fun c => by
  unfold foldC
  cases h : lk fs c with
  | none => exact Nat.le_refl _
  | some w => exact (ro.fw _ (lk_mem h)).1.ge
theorem SpC.Ok.fw (o : c.Ok) : FwOk c.fs := fw_of o.ro
theorem lt_get {x : Cell} {i : Nat} (h : s[i]? = some x) : i < s.length := (List.getElem?_eq_some_iff.mp h).1
end
end Nm
set_option Elab.async false
set_option linter.all false
set_option maxRecDepth 100000
set_option maxHeartbeats 8000000
set_option Elab.async false
set_option linter.all false
set_option maxRecDepth 100000
set_option maxHeartbeats 8000000
namespace Nm
open PySem PySem.Spec PyProof.Rows L2 Evl
section
variable {c : SpC} {s s' t : GS} {B : Nat} {r w a : List Nat} {x : Nat}
theorem SpS.app (h : SpS c s B) (x : Cell) : SpS c (s ++ [x]) B := by
  have up : ∀ {j : Nat} {y : Cell}, s[j]? = some y → (s ++ [x])[j]? = some y := fun e => by rw [List.getElem?_append_left (lt_get e)]; exact e
  obtain ⟨P, p1, p2⟩ := h.ps
  obtain ⟨T, t1, t2⟩ := h.ts
  obtain ⟨L, l1, l2⟩ := h.ls
  exact ⟨up h.ins, up h.c1, up h.c2, ⟨P, up p1, p2⟩, ⟨T, up t1, t2⟩, ⟨L, up l1, l2⟩⟩
theorem SpS.cut {y : Cell} (o : c.Ok) (h : SpS c t B) (m : Sm c (s ++ [y]) t) (h5 : c.i5 < s.length) : ∃ s', t = s' ++ [y] ∧ SpS c s' B ∧ Sm c s s' := by
  have o1 := o.o1; have o2 := o.o2; have o3 := o.o3; have o4 := o.o4; have o5 := o.o5
  have tl : t.length = s.length + 1 := by rw [m.len, List.length_append]; rfl
  have te : t = t.take s.length ++ [y] := by
    have e1 := (List.take_append_drop s.length t).symm
    have e2 : t.drop s.length = [y] := by
      have g : t[s.length]? = some y := by rw [m.old _ (by omega) (by omega) (by omega)]; exact celln
      obtain ⟨g1, g2⟩ := List.getElem?_eq_some_iff.mp g
      rw [List.drop_eq_getElem_cons g1, g2, List.drop_of_length_le (by omega)]
    rw [e2] at e1
    exact e1
  have dn : ∀ {j : Nat} {z : Cell}, j < s.length → t[j]? = some z → (t.take s.length)[j]? = some z := fun hj e => by rw [List.getElem?_take_of_lt hj]; exact e
  obtain ⟨P, p1, p2⟩ := h.ps
  obtain ⟨T, t1, t2⟩ := h.ts
  obtain ⟨L, l1, l2⟩ := h.ls
  refine ⟨t.take s.length, te, ⟨dn (by omega) h.ins, dn (by omega) h.c1, dn (by omega) h.c2, ⟨P, dn (by omega) p1, p2⟩, ⟨T, dn (by omega) t1, t2⟩, ⟨L, dn h5 l1, l2⟩⟩, fun j a b d => ?_, by rw [List.length_take]; omega⟩
  by_cases hj : j < s.length
  · rw [List.getElem?_take_of_lt hj, m.old j a b d, List.getElem?_append_left hj]
  · rw [List.getElem?_eq_none (by rw [List.length_take]; omega), List.getElem?_eq_none (by omega)]
end
end Nm
set_option Elab.async false
set_option linter.all false
set_option maxRecDepth 100000
set_option maxHeartbeats 8000000
set_option Elab.async false
set_option linter.all false
set_option maxRecDepth 100000
set_option maxHeartbeats 8000000
set_option Elab.async false
set_option linter.all false
set_option maxRecDepth 100000
set_option maxHeartbeats 8000000
namespace Nm
open PySem PySem.Spec PyProof.Rows L2 Evl
section
variable {c : SpC} {s s' t : GS} {B : Nat} {r w a : List Nat} {x k : Nat}
theorem SpS.up (h : SpS c s B) {B' : Nat} (hb : B ≤ B') : SpS c s B' := by
  obtain ⟨L, l1, l2, l3⟩ := h.ls
  exact ⟨h.ins, h.c1, h.c2, h.ps, h.ts, ⟨L, l1, Nat.le_trans l2 hb, l3⟩⟩
end
end Nm
set_option Elab.async false
set_option linter.all false
set_option maxRecDepth 100000
set_option maxHeartbeats 8000000
set_option Elab.async false
set_option linter.all false
set_option maxRecDepth 100000
set_option maxHeartbeats 8000000
namespace Nm
open PySem PySem.Spec PyProof.Rows L2 Evl
/-- in order, but for one thing that comes next -/
def Wv (s : GS) : Prop := bdS (s.length + 1) s = true
theorem wv_app {s : GS} (w : Wv s) : Wf (s ++ [Cell.dic []]) := by
  unfold Wv at w
  unfold Wf bdS at *
  rw [List.length_append, List.all_append, show s.length + [Cell.dic []].length = s.length + 1 from rfl, w]
  rfl
structure Bm (s : GS) (i : Nat) (g : G3) (t : GS) : Prop where
  dic : t[s.length]? = some (.dic (dkG g))
  cel : ∀ p ∈ g, t[p.2.2]? = some (.lst (txD p.2.1)) ∧ s.length < p.2.2
  nd : (g.map (·.2.2)).Nodup
  kd : (g.map (·.1)).Nodup
  old : ∀ j, j < s.length → t[j]? = s[j]?
  len : t.length = s.length + 1 + i
  wf : Wv s → Wf t
  gl : g.length ≤ i
  wl : ∀ p ∈ g, p.2.1.length ≤ i
theorem Bm.lt {s t : GS} {i : Nat} {g : G3} (b : Bm s i g t) {p : List Nat × List (List Nat) × Nat} (h : p ∈ g) : p.2.2 < t.length := (List.getElem?_eq_some_iff.mp (b.cel p h).1).1
theorem Bm.start (s : GS) : Bm s 0 [] (s ++ [Cell.dic []]) where
  dic := celln
  cel := fun _ h => nomatch h
  nd := List.nodup_nil
  kd := List.nodup_nil
  old := fun j hj => List.getElem?_append_left hj
  len := by rw [List.length_append]; rfl
  wf := fun w => wv_app w
  gl := Nat.le_refl _
  wl := fun _ h => nomatch h
end Nm
set_option Elab.async false
set_option linter.all false
set_option maxRecDepth 100000
set_option maxHeartbeats 8000000
set_option Elab.async false
set_option linter.all false
set_option maxRecDepth 100000
set_option maxHeartbeats 8000000
namespace Nm
open PySem PySem.Spec PyProof.Rows L2 Evl
section
variable {s t : GS} {fs : Fds} {ms : Mks} {sg : List Nat} {e : EnvD}
def F1 (ms : Mks) : List (Str × D) := [("_marks", .dic (dM ms))]
def F2 (ms : Mks) (i1 : Nat) : List (Str × D) := [("_marks", .dic (dM ms)), ("_signs", .obj i1)]
def F3 (ms : Mks) (i1 i2 : Nat) : List (Str × D) := [("_marks", .dic (dM ms)), ("_signs", .obj i1), ("_words", .obj i2)]
def F4 (ms : Mks) (i1 i2 i3 : Nat) : List (Str × D) := [("_marks", .dic (dM ms)), ("_signs", .obj i1), ("_words", .obj i2), ("_parts", .obj i3)]
def F5 (ms : Mks) (i1 i2 i3 i4 : Nat) : List (Str × D) := [("_marks", .dic (dM ms)), ("_signs", .obj i1), ("_words", .obj i2), ("_parts", .obj i3), ("_tallies", .obj i4)]
end
end Nm
set_option Elab.async false
set_option linter.all false
set_option maxRecDepth 100000
set_option maxHeartbeats 8000000
set_option Elab.async false
set_option linter.all false
set_option maxRecDepth 100000
set_option maxHeartbeats 8000000
namespace Nm
open PySem PySem.Spec PyProof.Rows L2 Evl
section
variable {s t : GS} {fs : Fds} {ms : Mks} {e : EnvD} {l r : List Nat} {n i2 i3 k : Nat}
theorem gc_end {m : MF} {ds : List D} {s t : GS} {d : D} (e : m ds s = some (.ok d t)) (h : ∀ j, j < s.length → t[j]? = s[j]?) (hl : s.length ≤ t.length) (wf : Wf s) (bd : bdD s.length d = true) : gcM m ds s = some (.ok d s) := by
  obtain ⟨r, rfl⟩ := pre_eq hl h
  exact gc_wf e rfl wf bd
end
end Nm
set_option Elab.async false
set_option linter.all false
set_option Elab.async false
set_option linter.all false
set_option maxRecDepth 100000
set_option maxHeartbeats 8000000
namespace Nm
open PySem PySem.Spec PyProof.Rows L2 Evl
def upN (fs : Fds) (ms : Mks) (m : Nat) (l : List Nat) : Nat := min (m + 1) ((keyL fs ms l).length + 1)
end Nm
set_option Elab.async false
set_option linter.all false
namespace Nm
section
variable {fs : Fds} {ms : Mks} {sg so : List Nat} {l a b w r v u : List Nat} {c n N : Nat}
def ltN (u v : List Nat) : Prop := u.length < v.length ∨ (u.length = v.length ∧ ltL u v)
end
end Nm
set_option Elab.async false
set_option linter.all false
namespace Nm
section
variable {fs : Fds} {ms : Mks} {sg so : List Nat} {l a b w r v u r1 r2 : List Nat} {c n N z : Nat}
def oc (f : List Nat → Nat) (o : Option (List Nat)) : Nat := (o.map f).getD 0
end
end Nm
set_option Elab.async false
set_option linter.all false
set_option maxRecDepth 100000
set_option maxHeartbeats 8000000
set_option Elab.async false
set_option linter.all false
set_option maxRecDepth 100000
set_option maxHeartbeats 8000000
namespace Nm
open PySem PySem.Spec PyProof.Rows L2 Evl
structure LS (m : Nat) (k : Int) (u : GS) : Prop where
  bag : Bag u m k
  lt : m < u.length
  wf : Wf u
section
variable {m : Nat} {u t : GS} {ns : List Int}
theorem LS.of {k k' : Int} (h : LS m k u) (d : Drw u m k' t) : LS m k' t := ⟨d.bag, by rw [d.len]; exact h.lt, d.fl h.wf⟩
theorem LS.up {k k' : Int} (h : LS m k u) (hk : k ≤ k') : LS m k' u := ⟨h.bag.up hk, h.lt, h.wf⟩
theorem LS.cell {k : Int} {c : Cell} (h : LS m k u) (hc : ∀ n, bdC n c = true) : LS m k (u ++ [c]) := by
  refine ⟨?_, by rw [List.length_append]; exact Nat.lt_add_right _ h.lt, h.wf.app (hc _)⟩
  obtain ⟨x, y, z, h1, h2⟩ := h.bag
  exact ⟨x, y, z, by rw [List.getElem?_append_left h.lt]; exact h1, h2⟩
theorem LS.keep {k : Int} (h : LS m k u) (w : Wf t) (ht : ∀ j, j < u.length → t[j]? = u[j]?) (hl : u.length ≤ t.length) : LS m k t := by
  obtain ⟨x, y, z, h1, h2⟩ := h.bag
  exact ⟨⟨x, y, z, (ht m h.lt).trans h1, h2⟩, Nat.lt_of_lt_of_le h.lt hl, w⟩
def lsD (ns : List Int) : D := .lsk (ns.map fun i => .v (.int i))
/-- the slots ahead: the script, the cell's place, the bag, the turn -/
def RNGK (K : Int) : MI := (mRng1 (mCons (mCB (f2I fun i j => if j > i then j else i) (mCons (mC (.int 2)) (mCons (mCB (f2I fun i j => if j < i then j else i) (mCons (mC (.int K)) (mCons (mCB fLen (mCons (mVar 0) mNil)) mNil))) mNil))) mNil))
def BAGA : MS := (mAsg (mCall m__law_bag_4c78 [] (mCons (mVar 0) (mCons (mVar 1) mNil))) (mgName 2))
/-- the cells of a script, one after the other -/
theorem cells_loop {K : Nat} (hK : K ≤ 63) {n : Nat} {BODY : MS} {N : Nds} {y z : Option D} {rest : List (Option D)} (hr : rest.length = n) (wf : Wf u)
    (hb : ∀ (i : Nat) (u : GS) (m : Nat) (rest : List (Option D)), LS m 0 u → rest.length = n → Wt (BODY (some (lsD ns) :: some (.v (.int (i : Int))) :: some (.obj m) :: rest) u) {nx := fun e t => Wf t ∧ ∃ y z rest, e = some (lsD ns) :: y :: z :: rest ∧ rest.length = n})
    (hn : ∀ y z rest t, Wf t → rest.length = n → N.nx (some (lsD ns) :: y :: z :: rest) t) :
    Wt (mFor (RNGK K) (mgName 1) (mSeq BAGA BODY) (some (lsD ns) :: y :: z :: rest) u) N := by
  have ln : fLen [lsD ns] u = some (.v (.int (ns.length : Int)), u) := by
    show some (D.v (V.int ((ns.map fun i => D.v (V.int i)).length : Int)), u) = _
    rw [List.length_map]
  have m1 : (f2I fun i j => if j < i then j else i) [.v (.int (K : Int)), .v (.int (ns.length : Int))] u = some (.v (.int (min K ns.length : Nat)), u) := by
    show some (D.v (V.int (if (ns.length : Int) < (K : Int) then (ns.length : Int) else (K : Int))), u) = _
    rw [show (if (ns.length : Int) < (K : Int) then (ns.length : Int) else (K : Int)) = ((min K ns.length : Nat) : Int) by split <;> omega]
  have m2 : (f2I fun i j => if j > i then j else i) [.v (.int 2), .v (.int (min K ns.length : Nat))] u = some (.v (.int (max 2 (min K ns.length) : Nat)), u) := by
    show some (D.v (V.int (if ((min K ns.length : Nat) : Int) > 2 then ((min K ns.length : Nat) : Int) else 2)), u) = _
    rw [show (if ((min K ns.length : Nat) : Int) > 2 then ((min K ns.length : Nat) : Int) else 2) = ((max 2 (min K ns.length) : Nat) : Int) by split <;> omega]
  have v0 : ∀ {Q : Kq D} {s : GS}, kVar (some (some (lsD ns))) Q s = Q.ok (lsD ns) s := rfl
  unfold RNGK BAGA
  simp only [wW, v0, ln, m1, m2]
  refine ⟨by omega, by omega, ?_⟩
  rw [Int.toNat_natCast, rng_map]
  refine w_loopM (fun i e t => Wf t ∧ ∃ y z rest, e = some (lsD ns) :: y :: z :: rest ∧ rest.length = n) ⟨wf, _, _, _, rfl, hr⟩ ?_ ?_
  · rintro i i' e t hi ⟨wt, y, z, rest, rfl, hr⟩
    obtain ⟨c, eb, hb', hf⟩ := bag_ok (st := t) ns i'
    replace eb : m__law_bag_4c78 [lsD ns, .v (.int (i' : Int))] t = _ := eb
    have L0 : LS t.length 0 (t ++ [c]) := ⟨hb', by rw [List.length_append]; exact Nat.lt_succ_self _, wt.app (flat_bd hf)⟩
    simp only [wW, v0, eb]
    exact Wt.imp (hb i' (t ++ [c]) t.length rest L0 hr) (fun e s h => h)
  · rintro e t ⟨wt, y, z, rest, rfl, hr⟩
    exact hn y z rest t wt hr
/-- the turns with one bag -/
theorem turns_loop {T : Nat} (hT : T ≤ 1000) {c : Int} (hc : 0 ≤ c) {n : Nat} {TURN : MS} {N : Nds} {x1 x3 : Option D} {rest : List (Option D)} (hr : rest.length = n) (h0 : LS m 0 u)
    (ht : ∀ (k : Int) (u : GS) (x3 : Option D) (rest : List (Option D)), LS m k u → k ≤ c * T → rest.length = n → Wt (TURN (some (lsD ns) :: x1 :: some (.obj m) :: x3 :: rest) u) {nx := fun e t => LS m (k + c) t ∧ ∃ x3 rest, e = some (lsD ns) :: x1 :: some (.obj m) :: x3 :: rest ∧ rest.length = n})
    (hn : ∀ x3 rest t, LS m (c * T) t → rest.length = n → N.nx (some (lsD ns) :: x1 :: some (.obj m) :: x3 :: rest) t) :
    Wt (mFor (mRng1 (mCons (mC (.int (T : Int))) mNil)) (mgName 3) TURN (some (lsD ns) :: x1 :: some (.obj m) :: x3 :: rest) u) N := by
  simp only [wW]
  refine ⟨by omega, by omega, ?_⟩
  rw [Int.toNat_natCast, rng_map]
  refine w_loopM (fun j e t => j ≤ T → LS m (c * (j : Nat)) t ∧ ∃ x3 rest, e = some (lsD ns) :: x1 :: some (.obj m) :: x3 :: rest ∧ rest.length = n) (fun _ => ⟨h0.up (by simp), _, _, rfl, hr⟩) ?_ ?_
  · rintro j j' e t hj hp
    have j2 : j < T := by
      have := (List.getElem?_eq_some_iff.mp hj).1
      rwa [List.length_range] at this
    obtain ⟨L1, x3, rest, rfl, hr⟩ := hp (by omega)
    simp only [wW]
    refine Wt.imp (ht _ t _ rest L1 (Int.mul_le_mul_of_nonneg_left (by omega) hc) hr) fun e s h => ?_
    obtain ⟨L2, x3, rest, rfl, hr⟩ := h
    intro _
    refine ⟨L2.up (Int.le_of_eq ?_), _, _, rfl, hr⟩
    rw [Int.natCast_add, Int.mul_add]
    simp
  · rintro e t hp
    rw [List.length_range] at hp
    obtain ⟨L1, x3, rest, rfl, hr⟩ := hp (Nat.le_refl _)
    exact hn _ _ _ L1 hr
/-- the law's own def -/
theorem law_end {n : Nat} {b : MS} (h : Wt (b (some (lsD ns) :: List.replicate n none) []) {nx := fun _ _ => False, rt := fun d _ => d = .v (.bl true)}) : ∃ st, gcM (nrM (mFn 1 (n + 1) b)) [lsD ns] [] = some (.ok (.v (.bl true)) st) := by
  have key : We (gcM (nrM (mFn 1 (n + 1) b)) [lsD ns] []) ⟨fun d t => d = .v (.bl true), fun _ _ _ => False⟩ := by
    refine w_gc ?_
    rw [We_nr, w_fn]
    refine ⟨rfl, ?_⟩
    rw [show n + 1 - 1 = n from rfl]
    refine Wt.imp h (fun e s z => z.elim) (fun d s z => ?_)
    obtain rfl := z
    exact ⟨[], s, rfl, rfl, rfl, rfl, rfl⟩
  obtain ⟨d, t, e, rfl⟩ := key.get
  exact ⟨t, e⟩
end
end Nm
set_option Elab.async false
set_option linter.all false
set_option maxRecDepth 100000
set_option maxHeartbeats 8000000
namespace Nm
open PySem PySem.Spec PyProof.Rows L2 Evl
section
variable {s u t : GS} {fs : Fds} {ms : Mks} {l a b r r1 r2 : List Nat} {n k m z : Nat}
/-- the counts of a word -/
theorem for_items {i : MI} {g : MG} {p : MS} {e : EnvD} {s : GS} {ds : List D} {N : Nds} (h : i e s = some (.ok ds s)) (hl : Wt (mLoop g p ds e s) N) : Wt (mFor i g p e s) N := by
  rw [w_for, h]
  exact hl
theorem fNe_ss {z : Str} : fNe (.v (.str z)) (.v (.str z)) s = some (.v (.bl false), s) := by rw [fNe_str, decide_eq_true rfl]; rfl
/-- while t: b -/
theorem w_wh {t : MT} {b : MS} {N : Nds} (P : Nat → EnvD → GS → Prop)
    (hs : ∀ m e s, P m e s → We (t e s) ⟨fun c s => if c = true then Wt (b e s) {nx := fun e s => ∃ m', m' < m ∧ P m' e s} else N.nx e s, fun _ _ _ => False⟩) : ∀ (n m : Nat) (e : EnvD) (s : GS), m < n → P m e s → Wt (mWh t b n e s) N
  | 0, m, e, s, hm, hp => absurd hm (Nat.not_lt_zero _)
  | n + 1, m, e, s, hm, hp => by
    obtain ⟨c, s1, e1, h1⟩ := We.get (hs m e s hp)
    cases c with
    | false =>
      have : mWh t b (n + 1) e s = some (.nx e s1) := by simp only [mWh, bnS, e1, Bool.false_eq_true, if_false]
      rw [this]
      exact h1
    | true =>
      rw [if_pos rfl] at h1
      obtain ⟨e4, s4, e5, m', hm', hp'⟩ := Wt.next h1
      have : mWh t b (n + 1) e s = mWh t b n e4 s4 := by simp only [mWh, bnS, e1, if_true, e5]
      rw [this]
      exact w_wh P hs n m' e4 s4 (by omega) hp'
end
end Nm
set_option Elab.async false
set_option linter.all false
set_option maxRecDepth 100000
set_option maxHeartbeats 4000000
set_option Elab.async false
set_option linter.all false
set_option maxRecDepth 100000
set_option maxHeartbeats 4000000
namespace Nm
open PySem PySem.Spec PyProof.Rows L2 Evl
section
variable {fs fs' : Fds} {ms ms' : Mks} {l x y u v p q w : List Nat}
theorem Eo.symm (h : Eo ms u v) : Eo ms v u := fun p q => (h p q).symm
end
end Nm
set_option Elab.async false
set_option linter.all false
set_option maxRecDepth 100000
set_option maxHeartbeats 4000000
namespace Nm
open PySem PySem.Spec PyProof.Rows L2 Evl
section
variable {κ : List Nat → List Nat}
structure GInv (κ : List Nat → List Nat) (g : G3) (W : List (List Nat)) : Prop where
  nd : (g.map (·.1)).Nodup
  eq : ∀ p ∈ g, p.2.1 = W.filter fun w => decide (κ w = p.1)
  ne : ∀ p ∈ g, p.2.1 ≠ []
  has : ∀ w ∈ W, ∃ p ∈ g, p.1 = κ w
theorem GInv.put {g : G3} {W : List (List Nat)} (h : GInv κ g W) (w : List Nat) (n : Nat) : GInv κ (put3 κ g w n) (W ++ [w]) := by
  have fo : ∀ k, ([w].filter fun x => decide (κ x = k)) = if κ w = k then [w] else [] := fun k => by
    by_cases hk : κ w = k <;> simp [hk]
  unfold put3
  cases f : g.find? fun p => decide (p.1 = κ w) with
  | some x =>
    have hx := List.mem_of_find?_eq_some f
    have kx := List.find?_some f
    rw [decide_eq_true_eq] at kx
    dsimp only
    refine ⟨?_, ?_, ?_, ?_⟩
    · rw [List.map_map, show ((fun p : List Nat × List (List Nat) × Nat => p.1) ∘ fun p => if p.1 = κ w then (p.1, p.2.1 ++ [w], p.2.2) else p) = fun p => p.1 from funext fun p => by
        show (if p.1 = κ w then (p.1, p.2.1 ++ [w], p.2.2) else p).1 = p.1
        split <;> rfl]
      exact h.nd
    · intro p hp
      obtain ⟨q, hq, rfl⟩ := List.mem_map.mp hp
      by_cases hk : q.1 = κ w
      · rw [if_pos hk, List.filter_append, fo]
        dsimp only
        rw [if_pos hk.symm, ← h.eq q hq]
      · rw [if_neg hk, List.filter_append, fo, if_neg fun e => hk e.symm, List.append_nil]
        exact h.eq q hq
    · intro p hp
      obtain ⟨q, hq, rfl⟩ := List.mem_map.mp hp
      by_cases hk : q.1 = κ w
      · rw [if_pos hk]; simp
      · rw [if_neg hk]; exact h.ne q hq
    · intro v hv
      have ex : ∃ p ∈ g, p.1 = κ v := by
        rcases List.mem_append.mp hv with hv | hv
        · exact h.has v hv
        · rw [List.mem_singleton.mp hv]
          exact ⟨x, hx, kx⟩
      obtain ⟨p, hp, e⟩ := ex
      refine ⟨_, List.mem_map.mpr ⟨p, hp, rfl⟩, ?_⟩
      split <;> exact e
  | none =>
    have no : ∀ p ∈ g, p.1 ≠ κ w := fun p hp e => by
      have := List.find?_eq_none.mp f p hp
      rw [decide_eq_true e] at this
      exact this rfl
    dsimp only
    refine ⟨?_, ?_, ?_, ?_⟩
    · rw [List.map_append, List.nodup_append]
      refine ⟨h.nd, by simp, fun a ha b hb e => ?_⟩
      obtain ⟨p, hp, rfl⟩ := List.mem_map.mp ha
      rw [List.map_singleton, List.mem_singleton] at hb
      exact no p hp (e.trans hb)
    · intro p hp
      rw [List.filter_append, fo]
      rcases List.mem_append.mp hp with hp | hp
      · rw [if_neg fun e => no p hp e.symm, List.append_nil]
        exact h.eq p hp
      · rw [List.mem_singleton.mp hp, if_pos rfl, List.filter_eq_nil_iff.mpr, List.nil_append]
        intro v hv e
        rw [decide_eq_true_eq] at e
        obtain ⟨q, hq, eq⟩ := h.has v hv
        exact no q hq (eq.trans e)
    · intro p hp
      rcases List.mem_append.mp hp with hp | hp
      · exact h.ne p hp
      · rw [List.mem_singleton.mp hp]; simp
    · intro v hv
      rcases List.mem_append.mp hv with hv | hv
      · obtain ⟨p, hp, e⟩ := h.has v hv
        exact ⟨p, List.mem_append_left _ hp, e⟩
      · rw [List.mem_singleton.mp hv]
        exact ⟨_, List.mem_append_right _ (List.mem_singleton.mpr rfl), rfl⟩
theorem GInv.all : ∀ (V : List (List Nat)) {g : G3} {W : List (List Nat)} (n : Nat), GInv κ g W → GInv κ (grp3 κ g n V) (W ++ V)
  | [], g, W, n, h => by rw [List.append_nil]; exact h
  | v :: V, g, W, n, h => by
    have := GInv.all V (n + 1) (h.put v n)
    rw [List.append_assoc] at this
    exact this
end
end Nm
set_option Elab.async false
set_option linter.all false
set_option maxRecDepth 100000
set_option maxHeartbeats 4000000
set_option Elab.async false
set_option linter.all false
set_option maxRecDepth 100000
set_option maxHeartbeats 4000000
set_option Elab.async false
set_option linter.all false
set_option maxRecDepth 100000
set_option maxHeartbeats 4000000
set_option Elab.async false
set_option linter.all false
set_option maxRecDepth 100000
set_option maxHeartbeats 8000000
set_option Elab.async false
set_option linter.all false
set_option maxRecDepth 100000
set_option maxHeartbeats 4000000
set_option Elab.async false
set_option linter.all false
set_option maxRecDepth 100000
set_option maxHeartbeats 4000000
set_option Elab.async false
set_option linter.all false
set_option maxRecDepth 100000
set_option maxHeartbeats 4000000
namespace Nm
open PySem PySem.Spec PyProof.Rows L2 Evl
theorem Sup.refl (fs : Fds) (ms : Mks) : Sup fs ms fs ms := ⟨fun _ _ h => h, fun _ _ h => h⟩
end Nm
set_option Elab.async false
set_option linter.all false
set_option maxRecDepth 100000
set_option maxHeartbeats 4000000
set_option Elab.async false
set_option linter.all false
set_option maxRecDepth 100000
set_option maxHeartbeats 8000000
set_option Elab.async false
set_option linter.all false
set_option maxRecDepth 100000
set_option maxHeartbeats 8000000
set_option Elab.async false
set_option linter.all false
set_option maxRecDepth 100000
set_option maxHeartbeats 8000000
set_option Elab.async false
set_option linter.all false
set_option maxRecDepth 100000
set_option maxHeartbeats 4000000
namespace Nm
open PySem PySem.Spec PyProof.Rows L2 Evl
section
variable {fs fs' : Fds} {ms ms' : Mks} {ws W V : List (List Nat)} {so u v w x y a b c : List Nat} {κ κ' : List Nat → List Nat} {g : G3}
def hds (g : G3) : List (List Nat) := g.map fun p => p.2.1.headD []
end
end Nm
set_option Elab.async false
set_option linter.all false
set_option maxRecDepth 100000
set_option maxHeartbeats 4000000
set_option Elab.async false
set_option linter.all false
set_option maxRecDepth 100000
set_option maxHeartbeats 4000000
namespace Nm
open PySem PySem.Spec PyProof.Rows L2 Evl
/-- two words of at most four signs together that part two tables -/
structure Pt (fs : Fds) (ms : Mks) (fs' : Fds) (ms' : Mks) (x y : List Nat) : Prop where
  k : keyL fs ms x = keyL fs ms y
  n : keyL fs' ms' x ≠ keyL fs' ms' y
  lt : ltN x y
  sx : ∀ c ∈ x, sgn c = true
  sy : ∀ c ∈ y, sgn c = true
  ge : 1 ≤ x.length
  le : x.length + y.length ≤ 4
section
variable {fs fs' : Fds} {ms ms' : Mks} {ws F : List (List Nat)} {so u v w x y l r : List Nat} {a b c d n i k : Nat}
theorem Pt.len (h : Pt fs ms fs' ms' x y) : x.length ≤ y.length := h.lt.elim Nat.le_of_lt fun z => Nat.le_of_eq z.1
end
end Nm
set_option Elab.async false
set_option linter.all false
set_option maxRecDepth 100000
set_option maxHeartbeats 8000000
set_option Elab.async false
set_option linter.all false
set_option maxRecDepth 100000
set_option maxHeartbeats 8000000
set_option Elab.async false
set_option linter.all false
set_option maxRecDepth 100000
set_option maxHeartbeats 4000000
namespace Nm
open PySem PySem.Spec PyProof.Rows L2
section
variable {ds : List D} {d e : D} {n k m j : Nat} {ks : List (Key × D)}
structure ShR (d : D) (n k : Nat) : Prop where
  p : ∃ p, pyX d = some p ∧ p.showable = true ∧ p.leavesShort 40 = true ∧ p.bulk ≤ n ∧ p.depth ≤ k
theorem ShR.up (h : ShR d n k) {n' k' : Nat} (h1 : n ≤ n') (h2 : k ≤ k') : ShR d n' k' := by
  obtain ⟨p, q1, q2, q3, q4, q5⟩ := h.p
  exact ⟨p, q1, q2, q3, by omega, by omega⟩
theorem shR_str {z : Str} (h : ∀ c ∈ z.cps.toList, c < 1000000) : ShR (.v (.str z)) z.length 0 := by
  refine ⟨_, rfl, rfl, ?_, Nat.le_refl _, by simp [PyData.depth]⟩
  show (z.cps.toList.all fun c => decide (c < 16 ^ 8)) = true
  rw [List.all_eq_true]
  intro c hc
  have := h c hc
  exact decide_eq_true (by omega)
theorem shR_st {w : List Nat} (h : ∀ c ∈ w, c < 1000000) : ShR (.v (.str (stL w))) w.length 0 := by
  have := shR_str (z := stL w) (by rw [stL_codes]; exact h)
  rwa [stL_len] at this
theorem int_short : ∀ i : Fin 2048, ((PyData.int (((i : Nat) : Int) - 1)).showable && (PyData.int (((i : Nat) : Int) - 1)).leavesShort 40) = true := by decide +kernel
theorem shR_int {i : Int} (h0 : -1 ≤ i) (h1 : i < 2047) : ShR (.v (.int i)) 0 0 := by
  obtain ⟨j, hj⟩ : ∃ j : Nat, (j : Int) - 1 = i := ⟨(i + 1).toNat, by omega⟩
  have := int_short ⟨j, by omega⟩
  rw [Bool.and_eq_true] at this
  rw [← hj]
  exact ⟨_, rfl, this.1, this.2, Nat.le_refl _, by simp [PyData.depth]⟩
theorem shR_non : ShR (.v .non) 0 0 := ⟨_, rfl, rfl, rfl, Nat.le_refl _, by simp [PyData.depth]⟩
theorem shR_bl {b : Bool} : ShR (.v (.bl b)) 0 0 := ⟨_, rfl, rfl, rfl, Nat.le_refl _, by simp [PyData.depth]⟩
structure ShRs (ds : List D) (n k : Nat) : Prop where
  p : ∃ ps, pyXs ds = some ps ∧ PyData.showableAll ps = true ∧ PyData.leavesShortAll 40 ps = true ∧ PyData.bulkAll ps ≤ n ∧ PyData.depthAll ps ≤ k
theorem ShRs.nil : ShRs [] 0 0 := ⟨[], rfl, rfl, rfl, Nat.le_refl _, Nat.zero_le _⟩
theorem ShRs.cons (h : ShR d n k) (t : ShRs ds m j) : ShRs (d :: ds) (n + 1 + m) (max k j) := by
  obtain ⟨p, q1, q2, q3, q4, q5⟩ := h.p
  obtain ⟨ps, r1, r2, r3, r4, r5⟩ := t.p
  refine ⟨p :: ps, by simp only [pyXs, q1, r1]; rfl, by simp only [PyData.showableAll, q2, r2]; rfl, by simp only [PyData.leavesShortAll, q3, r3]; rfl, by simp only [PyData.bulkAll]; omega, by simp only [PyData.depthAll]; omega⟩
theorem ShRs.all : ∀ {ds : List D}, (∀ d ∈ ds, ShR d n k) → ShRs ds ((n + 1) * ds.length) k
  | [], _ => ⟨[], rfl, rfl, rfl, Nat.le_refl _, Nat.zero_le _⟩
  | d :: r, h => by
    obtain ⟨ps, r1⟩ := (ShRs.cons (h d (List.mem_cons_self ..)) (ShRs.all fun d hd => h d (List.mem_cons_of_mem _ hd))).p
    exact ⟨ps, r1.1, r1.2.1, r1.2.2.1, Nat.le_trans r1.2.2.2.1 (by rw [List.length_cons, Nat.mul_succ]; omega), Nat.le_trans r1.2.2.2.2 (by omega)⟩
theorem ShRs.lst (h : ShRs ds n k) : ShR (.lst ds) n (k + 1) := by
  obtain ⟨ps, r1, r2, r3, r4, r5⟩ := h.p
  exact ⟨.list ps, by simp only [pyX, r1]; rfl, by simp only [PyData.showable]; exact r2, by simp only [PyData.leavesShort]; exact r3, by simp only [PyData.bulk]; exact r4, by simp only [PyData.depth]; omega⟩
theorem ShRs.tup (h : ShRs ds n k) : ShR (.tup ds) n (k + 1) := by
  obtain ⟨ps, r1, r2, r3, r4, r5⟩ := h.p
  exact ⟨.tuple ps, by simp only [pyX, r1]; rfl, by simp only [PyData.showable]; exact r2, by simp only [PyData.leavesShort]; exact r3, by simp only [PyData.bulk]; exact r4, by simp only [PyData.depth]; omega⟩
theorem shR_pair (h1 : ShR d n k) (h2 : ShR e m j) : ShR (.tup [d, e]) (n + 1 + (m + 1 + 0)) (max k (max j 0) + 1) := (ShRs.cons h1 (ShRs.cons h2 ShRs.nil)).tup
theorem shR_dic (h : ∀ p ∈ ks, ∃ z : Str, p.1 = Sum.inr z ∧ (∀ c ∈ z.cps.toList, c < 1000000) ∧ z.length ≤ m ∧ ShR p.2 n k) : ShR (.dic ks) ((m + n + 2) * ks.length) (k + 1) := by
  have : ∃ ps, pyXk ks = some ps ∧ PyData.showableKv ps = true ∧ PyData.leavesShortKv 40 ps = true ∧ PyData.bulkKv ps ≤ (m + n + 2) * ks.length ∧ PyData.depthKv ps ≤ k := by
    induction ks with
    | nil => exact ⟨[], rfl, rfl, rfl, Nat.le_refl _, Nat.zero_le _⟩
    | cons a r ih =>
      obtain ⟨ps, r1, r2, r3, r4, r5⟩ := ih fun p hp => h p (List.mem_cons_of_mem _ hp)
      obtain ⟨z, e1, e2, e3, e4⟩ := h a (List.mem_cons_self ..)
      obtain ⟨p, q1, q2, q3, q4, q5⟩ := e4.p
      obtain ⟨y, hy1, hy2, hy3, hy4, hy5⟩ := (shR_str e2).p
      cases hy1
      obtain ⟨a1, a2⟩ := a
      dsimp only at e1
      subst e1
      refine ⟨(.str z, p) :: ps, ?_, ?_, ?_, ?_, ?_⟩
      · show ((pyX a2).bind fun e => (pyXk r).map ((keyD (Sum.inr z), e) :: ·)) = _
        rw [q1, r1]
        rfl
      · simp only [PyData.showableKv, q2, r2, hy2]; rfl
      · simp only [PyData.leavesShortKv, q3, r3, hy3]; rfl
      · simp only [PyData.bulkKv, List.length_cons, Nat.mul_succ]
        omega
      · simp only [PyData.depthKv]
        omega
  obtain ⟨ps, r1, r2, r3, r4, r5⟩ := this
  exact ⟨.dict ps, by simp only [pyX, r1]; rfl, by simp only [PyData.showable]; exact r2, by simp only [PyData.leavesShort]; exact r3, by simp only [PyData.bulk]; exact r4, by simp only [PyData.depth]; omega⟩
theorem reprX_ok (h : ShR d 300000 30) : ∃ z, ∀ s : GS, fReprX [d] s = some (.v (.str z), s) := by
  obtain ⟨p, q1, q2, q3, q4, q5⟩ := h.p
  refine ⟨p.shown, fun s => ?_⟩
  show (match pyX d with | some d => if fitB d = true then some (D.v (V.str d.shown), s) else none | none => none) = _
  rw [q1]
  dsimp only
  rw [if_pos]
  unfold fitB
  rw [q2, q3, decide_eq_true q4, decide_eq_true q5]
  rfl
end
end Nm
set_option Elab.async false
set_option linter.all false
set_option maxRecDepth 100000
set_option maxHeartbeats 8000000
set_option Elab.async false
set_option linter.all false
set_option maxRecDepth 100000
set_option maxHeartbeats 8000000
namespace Nm
open PySem PySem.Spec PyProof.Rows L2 Evl
section
variable {s t u : GS} {w a r : List Nat} {c : Nat}
theorem gc_nilx {m : MF} {ds : List D} {st st' : GS} {c : Str} {fs : List (Str × D)} (e : m ds st = some (.ex c fs st')) (hl : st'.length = st.length) : gcM m ds st = some (.ex c fs st') := by
  have t : st'.take st.length = st' := by rw [← hl]; exact List.take_length
  unfold gcM
  rw [e]
  unfold Nm.gc
  dsimp only
  rw [t]
  split <;> rfl
end
end Nm
set_option Elab.async false
set_option linter.all false
set_option maxRecDepth 100000
set_option maxHeartbeats 8000000
set_option Elab.async false
set_option linter.all false
set_option maxRecDepth 100000
set_option maxHeartbeats 8000000
namespace Nm
open PySem PySem.Spec PyProof.Rows L2
section
variable {s t u : GS} {z : Str}
theorem drop_at {α : Type} {l : List α} {i : Nat} {a : α} (h : l[i]? = some a) : l.drop i = a :: l.drop (i + 1) := by
  obtain ⟨il, e⟩ := List.getElem?_eq_some_iff.mp h
  rw [List.drop_eq_getElem_cons il, e]
end
end Nm
set_option Elab.async false
set_option linter.all false
set_option maxRecDepth 100000
set_option maxHeartbeats 8000000
set_option Elab.async false
set_option linter.all false
set_option maxRecDepth 100000
set_option maxHeartbeats 8000000
namespace Nm
open PySem PySem.Spec PyProof.Rows L2
section
variable {s t u : GS} {z : Str} {a : List Nat} {p q : Int × Nat} {IT : List (List Nat)}
/-- q comes ahead of p -/
def ltI (q p : Int × Nat) : Prop := q.1 < p.1 ∨ (q.1 = p.1 ∧ q.2 < p.2)
theorem ltI.trans {r : Int × Nat} (h : ltI q p) (k : ltI p r) : ltI q r := by
  unfold ltI at *
  omega
end
end Nm
set_option Elab.async false
set_option linter.all false
set_option maxRecDepth 100000
set_option maxHeartbeats 8000000
set_option Elab.async false
set_option linter.all false
set_option maxRecDepth 100000
set_option maxHeartbeats 8000000
set_option Elab.async false
set_option linter.all false
set_option maxRecDepth 100000
set_option maxHeartbeats 8000000
namespace Nm
open PySem PySem.Spec PyProof.Rows L2 Evl
def L02_0_0 : MS := (mAsg (mCall m__law_bag_4c78 [] (mCons (mVar 0) (mCons (mVar 1) mNil))) (mgName 2))
def L02_0_1_0 : MS := (mAsg (mCall q__law_rule [] (mCons (mVar 2) mNil)) (mgTup 2 (mgCons (mgName 4) (mgCons (mgName 5) mgNil))))
def L02_0_1_1_B : MS := (mDrop (mCall q__law_bent [] (mCons (mVar 2) (mCons (mVar 4) (mCons (mVar 5) mNil)))))
def L02_0_1_1 : MS := (mFor (mRng1 (mCons (mCall m__law_take_d4ae [] (mCons (mVar 2) (mCons (mC (.int 4)) mNil))) mNil)) (mgName 6) L02_0_1_1_B)
def L02_0_1_2 : MS := (mFrz 5 (mFrz 4 (mPar 7 8 (mCons (mCall q__law_due [] (mCons (mVar 4) (mCons (mVar 5) mNil))) (mCons (mCB fReprX (mCons (mLst (mCons (mVar 4) (mCons (mVar 5) mNil))) mNil)) mNil)))))
def L02_0_1_3 : MS := (mIfS (mOr (mTest (mOp fNe (mCB fReprX (mCons (mCall q__law_error [] (mCons (mVar 4) (mCons (mVar 5) mNil))) mNil)) (mCB fReprX (mCons (mVar 7) mNil)))) (mTest (mOp fNe (mCB fReprX (mCons (mLst (mCons (mVar 4) (mCons (mVar 5) mNil))) mNil)) (mVar 8)))) (mRet (mC (.bl false))) mNext)
def L02_0_1_4 : MS := (mIfS (mTest (mOp fNe (mCB fReprX (mCons (mCall q__law_error [] (mCons (mCall q__law_turned [] (mCons (mVar 2) (mCons (mVar 4) mNil))) (mCons (mCall q__law_turned [] (mCons (mVar 2) (mCons (mVar 5) mNil))) mNil))) mNil)) (mCB fReprX (mCons (mVar 7) mNil)))) (mRet (mC (.bl false))) mNext)
def L02_0_1_B : MS := mSeq L02_0_1_0 (mSeq L02_0_1_1 (mSeq L02_0_1_2 (mSeq L02_0_1_3 (L02_0_1_4))))
def L02_0_1 : MS := (mFor (mRng1 (mCons (mC (.int 12)) mNil)) (mgName 3) L02_0_1_B)
def L02_0_B : MS := mSeq L02_0_0 (L02_0_1)
def L02_0 : MS := (mFor (mRng1 (mCons (mCB (f2I fun i j => if j > i then j else i) (mCons (mC (.int 2)) (mCons (mCB (f2I fun i j => if j < i then j else i) (mCons (mC (.int 6)) (mCons (mCB fLen (mCons (mVar 0) mNil)) mNil))) mNil))) mNil)) (mgName 1) L02_0_B)
def L02_1 : MS := (mAsg (mC (.str "ABCDEFGHIJKLMNOPQRSTUVWXYZabcdefghijklmnopqrstuvwxy")) (mgName 9))
def L02_2 : MS := (mPar 4 5 (mCons mDNewC (mCons mDNewC mNil)))
def L02_3_B : MS := (mSetI (mVar 4) (mVar 10) (mC (.str "z")))
def L02_3 : MS := (mFor (mItems (mSl fSl (mVar 9) mNoPart (mPart (mC (.int 41))))) (mgName 10) L02_3_B)
def L02_4_B : MS := (mSetI (mVar 5) (mVar 10) (mC (.int 1)))
def L02_4 : MS := (mFor (mItems (mC (.str "012345678"))) (mgName 10) L02_4_B)
def L02_5 : MS := (mIfS (mOr (mTest (mOp fNe (mCall q__law_error [] (mCons (mVar 4) (mCons (mVar 5) mNil))) (mTup (mCons (mC (.str "many")) (mCons (mC (.int 40)) mNil))))) (mTest (mOp fNe (mCall q__law_error [] (mCons mDNew (mCons (mVar 5) mNil))) (mTup (mCons (mC (.str "many")) (mCons (mC (.int 8)) mNil)))))) (mRet (mC (.bl false))) mNext)
def L02_6 : MS := (mDrop (mDPop1 (mVar 4) (mC (.str "A"))))
def L02_7 : MS := (mIfS (mOr (mTest (mOp fNe (mCall q__law_error [] (mCons (mVar 4) (mCons (mVar 5) mNil))) (mTup (mCons (mC (.str "many")) (mCons (mC (.int 8)) mNil))))) (mTest (mOp fNe (mCall q__law_error [] (mCons (mVar 4) (mCons (mDisp (((mC (.str "0")), (mC (.int 4))) :: [])) mNil))) (mTup (mCons (mC (.str "mark")) (mCons (mC (.str "0")) mNil)))))) (mRet (mC (.bl false))) mNext)
def L02_8 : MS := (mDrop (mDPop1 (mVar 5) (mC (.str "8"))))
def L02_9 : MS := (mRet (mAndV (mOp fEq (mCall q__law_error [] (mCons (mVar 4) (mCons (mVar 5) mNil))) (mTup mNil)) (mOp fEq (mCall q__law_error [] (mCons mDNew (mCons mDNew mNil))) (mTup mNil))))
def L02_B : MS := mSeq L02_0 (mSeq L02_1 (mSeq L02_2 (mSeq L02_3 (mSeq L02_4 (mSeq L02_5 (mSeq L02_6 (mSeq L02_7 (mSeq L02_8 (L02_9)))))))))
theorem L02_all : bq_law = L02_B := rfl
def D02_0_0 : MS := (mAsg (mOp fIx (mVar 0) (mVar 2)) (mgName 3))
def D02_0_1 : MS := (mIfS (mNot (mTest (mCall q__law_is_sign [] (mCons (mVar 2) mNil)))) (mRet (mTup (mCons (mC (.str "sign")) (mCons (mVar 2) mNil)))) mNext)
def D02_0_2 : MS := (mIfS (mOr (mNot (mTest (mCB fIsi (mCons (mVar 3) (mCons (mC (.ty "str")) mNil))))) (mOr (mNot (mTest (mChain fLe fLe (mC (.int 1)) (mCB fLen (mCons (mVar 3) mNil)) (mC (.int 3))))) (mNot (mTest (mCB fAll (mCons (mLcA 3 (mgName 4) mYes (mCall q__law_is_sign [] (mCons (mVar 4) mNil)) [4]) mNil)))))) (mRet (mTup (mCons (mC (.str "fold")) (mCons (mVar 2) mNil)))) mNext)
def D02_0_3 : MS := (mIfS (mTest (mOp fNe (mLcA 3 (mgName 4) (mTest (mOp fIn (mVar 4) (mVar 0))) (mVar 4) [4]) (mLst mNil))) (mRet (mTup (mCons (mC (.str "fold")) (mCons (mVar 2) mNil)))) mNext)
def D02_0_B : MS := mSeq D02_0_0 (mSeq D02_0_1 (mSeq D02_0_2 (D02_0_3)))
def D02_0 : MS := (mFor (mItems (mCB fSorted (mCons (mVar 0) mNil))) (mgName 2) D02_0_B)
def D02_1_0 : MS := (mIfS (mNot (mTest (mCall q__law_is_sign [] (mCons (mVar 2) mNil)))) (mRet (mTup (mCons (mC (.str "sign")) (mCons (mVar 2) mNil)))) mNext)
def D02_1_1 : MS := (mIfS (mOr (mTest (mCB fIsi (mCons (mOp fIx (mVar 1) (mVar 2)) (mCons (mC (.ty "bool")) mNil)))) (mOr (mTest (mOp fNinT (mOp fIx (mVar 1) (mVar 2)) (mTup (mCons (mC (.int 1)) (mCons (mC (.int 2)) (mCons (mC (.int 3)) mNil)))))) (mTest (mOp fIn (mVar 2) (mVar 0))))) (mRet (mTup (mCons (mC (.str "mark")) (mCons (mVar 2) mNil)))) mNext)
def D02_1_B : MS := mSeq D02_1_0 (D02_1_1)
def D02_1 : MS := (mFor (mItems (mCB fSorted (mCons (mVar 1) mNil))) (mgName 2) D02_1_B)
def D02_2 : MS := (mIfS (mTest (mOp fGt (mCB fLen (mCons (mVar 0) mNil)) (mC (.int 40)))) (mRet (mTup (mCons (mC (.str "many")) (mCons (mC (.int 40)) mNil)))) mNext)
def D02_3 : MS := (mRet (mIf (mTest (mOp fGt (mCB fLen (mCons (mVar 1) mNil)) (mC (.int 8)))) (mTup (mCons (mC (.str "many")) (mCons (mC (.int 8)) mNil))) (mTup mNil)))
def D02_B : MS := mSeq D02_0 (mSeq D02_1 (mSeq D02_2 (D02_3)))
theorem D02_all : bq__law_due = D02_B := rfl
def E02_0 : MS := (mTry (mDrop (mRest (mMake "Table" m_Table___init__ [] (mCons (mVar 0) (mCons (mVar 1) mNil))))) (⟨["NoSign"], some 2, (mRet (mIf (mTest (mCallA 2 q__law_alone)) (mTup (mCons (mC (.str "sign")) (mCons (mXf 2 "sign" ["NoSign"]) mNil))) (mTup (mCons (mC (.str "other")) (mCons (mC (.str "")) mNil)))))⟩ :: (⟨["NoFold"], some 2, (mRet (mIf (mTest (mCallA 2 q__law_alone)) (mTup (mCons (mC (.str "fold")) (mCons (mXf 2 "sign" ["NoFold"]) mNil))) (mTup (mCons (mC (.str "other")) (mCons (mC (.str "")) mNil)))))⟩ :: (⟨["NoMark"], some 2, (mRet (mIf (mTest (mCallA 2 q__law_alone)) (mTup (mCons (mC (.str "mark")) (mCons (mXf 2 "sign" ["NoMark"]) mNil))) (mTup (mCons (mC (.str "other")) (mCons (mC (.str "")) mNil)))))⟩ :: (⟨["TooMany"], some 2, (mRet (mIf (mAnd (mTest (mXis 2 "TooMany" true)) (mNot (mTest (mXis 2 "TooMany" false)))) (mTup (mCons (mC (.str "many")) (mCons (mXf 2 "limit" ["TooMany"]) mNil))) (mTup (mCons (mC (.str "other")) (mCons (mC (.str "")) mNil)))))⟩ :: [])))))
def E02_1 : MS := (mRet (mTup mNil))
def E02_B : MS := mSeq E02_0 (E02_1)
theorem E02_all : bq__law_error = E02_B := rfl
def B02_0 : MS := (mAsg (mCall m__law_take_d4ae [] (mCons (mVar 0) (mCons (mC (.int 6)) mNil))) (mgName 3))
def B02_1 : MS := (mAsg (mOp fIx (mLst (mCons (mC (.str "a")) (mCons (mC (.str "A")) (mCons (mC (.str "")) (mCons (mC (.str "ab")) (mCons (mC (.str " ")) (mCons (mC (.str "/")) (mCons (mC (.str "!")) (mCons (mC (.str "Q")) (mCons (mC (.str "'")) (mCons (mC (.str "1")) (mCons (mC (.str "z")) (mCons (mC (.str "\n")) mNil))))))))))))) (mCall m__law_take_d4ae [] (mCons (mVar 0) (mCons (mC (.int 12)) mNil)))) (mgName 4))
def B02_2 : MS := (mIfS (mTest (mOp fLt (mVar 3) (mC (.int 3)))) (mSeq (mAsg (mLst (mCons (mC (.str "")) (mCons (mC (.str "abcd")) (mCons (mC (.str "a b")) (mCons (mC (.str "a/")) (mCons (mC .non) (mCons (mC (.int 1)) (mCons (mLst (mCons (mC (.str "a")) mNil)) (mCons (mTup (mCons (mC (.str "a")) mNil)) (mCons (mC (.str "A")) (mCons (mC (.str "aQ")) (mCons (mC (.str "q")) (mCons (mC (.str "q'")) (mCons (mC (.str "qrs")) (mCons (mC (.bl true)) mNil))))))))))))))) (mgName 5))
  (mSetI (mVar 1) (mVar 4) (mOp fIx (mVar 5) (mCall m__law_take_d4ae [] (mCons (mVar 0) (mCons (mC (.int 14)) mNil)))))) (mSetI (mVar 2) (mVar 4) (mOp fIx (mLst (mCons (mC (.int 0)) (mCons (mC (.int 4)) (mCons (mC (.bl true)) (mCons (mC (.str "1")) (mCons (mC .non) (mCons (mC (.int 1)) (mCons (mC (.int 2)) (mCons (mC (.int 3)) (mCons (mLst (mCons (mC (.int 1)) mNil)) (mCons (mTup (mCons (mC (.int 1)) mNil)) (mCons (mUn fNeg (mC (.int 1))) (mCons (mOp (fI cPow fun i j => .int (i ^ j.toNat)) (mC (.int 10)) (mC (.int 30))) mNil))))))))))))) (mCall m__law_take_d4ae [] (mCons (mVar 0) (mCons (mC (.int 12)) mNil))))))
def B02_B : MS := mSeq B02_0 (mSeq B02_1 (B02_2))
theorem B02_all : bq__law_bent = B02_B := rfl
def T02_0 : MS := (mPar 2 3 (mCons (mCB fListC (mCons (mVar 1) mNil)) (mCons mDNewC mNil)))
def T02_1 : MS := (mWh (mTest (mOp fNe (mVar 2) (mLst mNil))) (mSeq (mAsg (mPopAt (mVar 2) (mCons (mCall m__law_take_d4ae [] (mCons (mVar 0) (mCons (mCB fLen (mCons (mVar 2) mNil)) mNil))) mNil)) (mgName 4))
  (mSetI (mVar 3) (mVar 4) (mOp fIx (mVar 1) (mVar 4)))) 100000)
def T02_2 : MS := (mRet (mRest (mVar 3)))
def T02_B : MS := mSeq T02_0 (mSeq T02_1 (T02_2))
def R02_0 : MS := (mPar 1 2 (mCons mDNewC (mCons mDNewC mNil)))
def R02_1_B : MS := (mIfS (mTest (mOp fEq (mCall m__law_take_d4ae [] (mCons (mVar 0) (mCons (mC (.int 2)) mNil))) (mC (.int 0)))) (mSetI (mVar 1) (mVar 3) (mM1 fJoin (mC (.str "")) (mLc (mRng1 (mCons (mOp fIx (mLst (mCons (mC (.int 1)) (mCons (mC (.int 1)) (mCons (mC (.int 2)) (mCons (mC (.int 2)) (mCons (mC (.int 3)) mNil)))))) (mCall m__law_take_d4ae [] (mCons (mVar 0) (mCons (mC (.int 5)) mNil)))) mNil)) (mgName 4) mYes (mOp fIx (mC (.str "aabc':^")) (mCall m__law_take_d4ae [] (mCons (mVar 0) (mCons (mC (.int 7)) mNil)))) [4]))) mNext)
def R02_1 : MS := (mFor (mItems (mC (.str "A1B2_Z9"))) (mgName 3) R02_1_B)
def R02_2_B : MS := (mIfS (mTest (mOp fGt (mCall m__law_take_d4ae [] (mCons (mVar 0) (mCons (mC (.int 3)) mNil))) (mC (.int 0)))) (mSetI (mVar 2) (mVar 3) (mOp fAdd (mC (.int 1)) (mCall m__law_take_d4ae [] (mCons (mVar 0) (mCons (mC (.int 3)) mNil))))) mNext)
def R02_2 : MS := (mFor (mItems (mC (.str "':^~"))) (mgName 3) R02_2_B)
def R02_3 : MS := (mRet (mTup (mCons (mVar 1) (mCons (mVar 2) mNil))))
def R02_B : MS := mSeq R02_0 (mSeq R02_1 (mSeq R02_2 (R02_3)))
theorem R02_all : bq__law_rule = R02_B := rfl
end Nm
set_option Elab.async false
set_option linter.all false
set_option maxRecDepth 100000
set_option maxHeartbeats 8000000
namespace Nm
open PySem PySem.Spec PyProof.Rows L2 Evl
section
variable {s t u : GS} {z : Str} {x y v : D} {l ms : List (Str × D)}
/-- a sign, as a text -/
def sgZ (z : Str) : Bool := match z.cps.toList with
  | [c] => sgn c
  | _ => false
theorem zlen : z.length = z.cps.toList.length := rfl
theorem sgZ_ne (h : z.length ≠ 1) : sgZ z = false := by
  unfold sgZ
  split
  · rename_i c hc
    exact absurd (by rw [zlen, hc]; rfl) h
  · rfl
theorem one_of (h : z.length = 1) : ∃ c, z = sgS c := by
  rw [zlen] at h
  match hc : z.cps.toList, h with
  | [c], _ => exact ⟨c, by rw [← stL_of z, hc]; rfl⟩
theorem sign_any (hz : z.length ≤ 100000) : m_is_sign [.v (.str z)] s = some (.ok (.v (.bl (sgZ z))) s) := by
  by_cases h1 : z.length = 1
  · obtain ⟨c, rfl⟩ := one_of h1
    exact is_sign_ok
  · rw [sgZ_ne h1]
    have l1 : fLen [.v (.str z)] s = some (.v (.int (z.length : Nat)), s) := fLen_str hz
    have l2 : fEq (.v (.int (z.length : Nat))) (.v (.int 1)) s = some (.v (.bl false), s) := by rw [fEq_int, decide_eq_false (by omega)]
    have l3 : fIsi [.v (.str z), .v (.ty "str")] s = some (.v (.bl true), s) := rfl
    refine We.eq (s0 := s) (w_gc0 ?_)
    rw [w_fn]
    refine ⟨rfl, ?_⟩
    unfold bm_is_sign
    simp only [wW, l1, l2, l3]
theorem aln_sgn : ∀ c : Fin 128, (Txt.isalnum (sgS c) || decide ((c : Nat) ∈ ("'-.:^_~" : Str).cps.toList)) = sgn c := by decide +kernel
theorem lawSign_any (h : ∀ c ∈ z.cps.toList, c < 128) (hz : z.length ≤ 100000) : q__law_is_sign [.v (.str z)] s = some (.ok (.v (.bl (sgZ z))) s) := by
  have l1 : fLen [.v (.str z)] s = some (.v (.int (z.length : Nat)), s) := fLen_str hz
  have l3 : fIsi [.v (.str z), .v (.ty "str")] s = some (.v (.bl true), s) := rfl
  have l4 : mAln (mVar 0) [some (.v (.str z))] s = some (.ok (.v (.bl (Txt.isalnum z))) s) := rfl
  by_cases h1 : z.length = 1
  · have l2 : fEq (.v (.int (z.length : Nat))) (.v (.int 1)) s = some (.v (.bl true), s) := by rw [fEq_int, decide_eq_true (by omega)]
    obtain ⟨c, rfl⟩ := one_of h1
    have l5 : fIn (.v (.str (sgS c))) (.v (.str "'-.:^_~")) s = some (.v (.bl (decide (c ∈ ("'-.:^_~" : Str).cps.toList))), s) := rfl
    have e : sgZ (sgS c) = sgn c := rfl
    have hc : c < 128 := h c (List.mem_singleton.mpr rfl)
    have ea := aln_sgn ⟨c, hc⟩
    dsimp only at ea
    rw [e, ← ea]
    generalize decide (c ∈ ("'-.:^_~" : Str).cps.toList) = b at *
    refine We.eq (s0 := s) (w_gc0 ?_)
    rw [w_fn]
    refine ⟨rfl, ?_⟩
    show Wt (bq__law_is_sign [some (.v (.str (sgS c)))] s) _
    unfold bq__law_is_sign
    cases ha : Txt.isalnum (sgS c) with
    | true =>
      rw [ha] at l4
      simp only [wW, l1, l2, l3, l4, ha, bOf]
      first | done | rfl | exact ⟨rfl, rfl, rfl⟩
    | false =>
      rw [ha] at l4
      simp only [wW, l1, l2, l3, l4, l5, ha, bOf]
      first | done | rfl | exact ⟨rfl, rfl, rfl⟩ | (cases b <;> first | done | rfl | exact ⟨rfl, rfl, rfl⟩)
  · have l2 : fEq (.v (.int (z.length : Nat))) (.v (.int 1)) s = some (.v (.bl false), s) := by rw [fEq_int, decide_eq_false (by omega)]
    rw [sgZ_ne h1]
    refine We.eq (s0 := s) (w_gc0 ?_)
    rw [w_fn]
    refine ⟨rfl, ?_⟩
    unfold bq__law_is_sign
    simp only [wW, l1, l2, l3]
def otF : List D := [.v .non, .v (.int 1), .lst [.v (.str "a")], .tup [.v (.str "a")], .v (.bl true)]
def VF (v : D) : Prop := (∃ w : List Nat, v = .v (.str (stL w)) ∧ w.length ≤ 100 ∧ ∀ c ∈ w, c < 128) ∨ v ∈ otF
def goodF : D → Bool
  | .v (.str z) => upTo z 3
  | _ => false
def letF : D → List Nat
  | .v (.str z) => z.cps.toList
  | _ => []
theorem not_text (h : v ∈ otF) : (∀ s, fIsi [v, .v (.ty "str")] s = some (.v (.bl false), s)) ∧ goodF v = false ∧ ∀ c fs, v ≠ .exn c fs := by
  unfold otF at h
  simp only [List.mem_cons, List.not_mem_nil, or_false] at h
  rcases h with rfl | rfl | rfl | rfl | rfl <;> exact ⟨fun s => rfl, rfl, fun c fs e => by cases e⟩
theorem fold_any (h : VF v) : m__is_fold_word [v] s = some (.ok (.v (.bl (goodF v))) s) := by
  rcases h with ⟨w, rfl, hw, _⟩ | h
  · exact is_fold_word_ok (by omega)
  · obtain ⟨h1, h2, h3⟩ := not_text h
    rw [h2]
    have nk : ∀ {Q : Kq D} {s : GS}, kVar (some (some v)) Q s = Q.ok v s := fun {Q s} => kv_of h3
    have h1 := h1 s
    have u : m__is_word_up_to [v, .v (.int 3)] s = some (.ok (.v (.bl false)) s) := by
      refine We.eq (s0 := s) (w_gc0 ?_)
      rw [w_fn]
      refine ⟨rfl, ?_⟩
      unfold bm__is_word_up_to
      simp only [wW, h1, nk]
    have e3 : D.v kc_LONGEST_FOLD = .v (.int 3) := rfl
    refine We.eq (s0 := s) (w_gc0 ?_)
    rw [w_fn]
    refine ⟨rfl, ?_⟩
    unfold bm__is_fold_word
    simp only [wW, e3, u, nk]
def otM : List D := [.v (.int 0), .v (.int 4), .v (.bl true), .v (.str "1"), .v .non, .v (.int 1), .v (.int 2), .v (.int 3), .lst [.v (.int 1)], .tup [.v (.int 1)], .v (.int (-1)), .v (.int 1000000000000000000000000000000)]
def goodM : D → Bool
  | .v (.int i) => decide (1 ≤ i ∧ i ≤ 3)
  | _ => false
def numI : D → Bool
  | .v (.int _) => true
  | _ => false
theorem num_any (h : v ∈ otM) : m_is_number [v] s = some (.ok (.v (.bl (numI v))) s) := by
  unfold otM at h
  simp only [List.mem_cons, List.not_mem_nil, or_false] at h
  rcases h with rfl | rfl | rfl | rfl | rfl | rfl | rfl | rfl | rfl | rfl | rfl | rfl <;> exact gc_nil (by kernel_rfl) rfl
theorem mk_facts (h : v ∈ otM) : (numI v = true → ∀ s, fIn v kc_MARK_CLASSES s = some (.v (.bl (goodM v)), s)) ∧ (numI v = false → goodM v = false) ∧ ∀ c fs, v ≠ .exn c fs := by
  unfold otM at h
  simp only [List.mem_cons, List.not_mem_nil, or_false] at h
  rcases h with rfl | rfl | rfl | rfl | rfl | rfl | rfl | rfl | rfl | rfl | rfl | rfl <;>
    refine ⟨?_, ?_, fun c fs e => by cases e⟩ <;>
    first
    | (intro e; cases e; done)
    | exact fun _ => rfl
    | exact fun _ s => rfl
theorem class_any (h : v ∈ otM) : m__is_mark_class [v] s = some (.ok (.v (.bl (goodM v))) s) := by
  obtain ⟨h1, h2, h3⟩ := mk_facts h
  have n := num_any (s := s) h
  have nk : ∀ {Q : Kq D} {s : GS}, kVar (some (some v)) Q s = Q.ok v s := fun {Q s} => kv_of h3
  refine We.eq (s0 := s) (w_gc0 ?_)
  rw [w_fn]
  refine ⟨rfl, ?_⟩
  unfold bm__is_mark_class
  cases hn : numI v with
  | true =>
    have h1 := h1 hn s
    rw [hn] at n
    simp only [wW, n, nk, h1]
    first | done | rfl | exact ⟨rfl, rfl, rfl⟩
  | false =>
    rw [hn] at n
    rw [h2 hn]
    simp only [wW, n, nk]
/-- the law's three tests -/
theorem law_class (h : v ∈ otM) : ∃ b1 b2 : Bool, (∀ s, fIsi [v, .v (.ty "bool")] s = some (.v (.bl b1), s)) ∧ (∀ s, fNinT v (.tup [.v (.int 1), .v (.int 2), .v (.int 3)]) s = some (.v (.bl b2), s)) ∧ (b1 || b2) = !goodM v := by
  unfold otM at h
  simp only [List.mem_cons, List.not_mem_nil, or_false] at h
  rcases h with rfl | rfl | rfl | rfl | rfl | rfl | rfl | rfl | rfl | rfl | rfl | rfl <;>
    first
    | exact ⟨false, false, fun s => rfl, fun s => rfl, rfl⟩
    | exact ⟨false, true, fun s => rfl, fun s => rfl, rfl⟩
    | exact ⟨true, false, fun s => rfl, fun s => rfl, rfl⟩
    | exact ⟨true, true, fun s => rfl, fun s => rfl, rfl⟩
def dZd (l : List (Str × D)) : List (Key × D) := l.map fun p => (Sum.inr p.1, p.2)
def vl (l : List (Str × D)) (z : Str) : Option D := valD (dZd l) (Sum.inr z)
theorem keyS_dS : ∀ l : List (Str × D), keyS (dZd l) = some (l.map (·.1))
  | [] => rfl
  | p :: r => by
    show (keyS (dZd r)).map (p.1 :: ·) = _
    rw [keyS_dS r]
    rfl
theorem vl_mem {l : List (Str × D)} (h : vl l z = some v) : (z, v) ∈ l := by
  unfold vl valD at h
  obtain ⟨kv, h1, h2⟩ := Option.map_eq_some_iff.mp h
  have h3 := List.find?_some h1
  obtain ⟨p, hp, rfl⟩ := List.mem_map.mp (List.mem_of_find?_eq_some h1)
  have h3 : (Sum.inr p.1 : Key) = Sum.inr z := of_decide_eq_true h3
  cases h3
  cases h2
  exact hp
theorem vl_some (h : z ∈ l.map (·.1)) : ∃ v, vl l z = some v := by
  obtain ⟨p, hp, rfl⟩ := List.mem_map.mp h
  unfold vl valD
  cases hf : (dZd l).find? fun kv => decide (kv.1 = (Sum.inr p.1 : Key)) with
  | some kv => exact ⟨kv.2, rfl⟩
  | none =>
    have := List.find?_eq_none.mp hf (Sum.inr p.1, p.2) (List.mem_map.mpr ⟨p, hp, rfl⟩)
    exact absurd (decide_eq_true rfl) this
inductive Kd where
  | sg | fo | mk
def Kd.nm : Kd → Str
  | .sg => "sign"
  | .fo => "fold"
  | .mk => "mark"
def Kd.cl : Kd → Str
  | .sg => "NoSign"
  | .fo => "NoFold"
  | .mk => "NoMark"
def anyF (l : List (Str × D)) (v : D) : Bool := (letF v).any fun c => (vl l (sgS c)).isSome
def badFz (l : List (Str × D)) (z : Str) : Option (Kd × Str) := if sgZ z = true then (match vl l z with
  | some v => if (goodF v && !anyF l v) = true then none else some (.fo, z)
  | none => none) else some (.sg, z)
def dueF (l : List (Str × D)) : Option (Kd × Str) := (srtZ (l.map (·.1))).findSome? (badFz l)
def badMz (l ms : List (Str × D)) (z : Str) : Option (Kd × Str) := if sgZ z = true then (match vl ms z with
  | some v => if (goodM v && !(vl l z).isSome) = true then none else some (.mk, z)
  | none => none) else some (.sg, z)
def dueM (l ms : List (Str × D)) : Option (Kd × Str) := (srtZ (ms.map (·.1))).findSome? (badMz l ms)
def dueD (l ms : List (Str × D)) : D := match dueF l with
  | some p => .tup [.v (.str p.1.nm), .v (.str p.2)]
  | none => match dueM l ms with
    | some p => .tup [.v (.str p.1.nm), .v (.str p.2)]
    | none => if 40 < l.length then .tup [.v (.str "many"), .v (.int 40)] else if 8 < ms.length then .tup [.v (.str "many"), .v (.int 8)] else .tup []
structure FdOk (l : List (Str × D)) : Prop where
  nd : (l.map (·.1)).Nodup
  le : l.length ≤ 60
  ks : ∀ p ∈ l, p.1.length ≤ 100 ∧ ∀ c ∈ p.1.cps.toList, c < 128
  vs : ∀ p ∈ l, VF p.2
structure MkOk (l : List (Str × D)) : Prop where
  nd : (l.map (·.1)).Nodup
  le : l.length ≤ 60
  ks : ∀ p ∈ l, p.1.length ≤ 100 ∧ ∀ c ∈ p.1.cps.toList, c < 128
  vs : ∀ p ∈ l, p.2 ∈ otM
theorem fs_step {α β : Type} {p : α → Option β} {a : α} {l : List α} {q : Option β} (h : (a :: l).findSome? p = q) : (∀ b, p a = some b → q = some b) ∧ (p a = none → l.findSome? p = q) := by
  rw [List.findSome?_cons] at h
  refine ⟨fun b e => ?_, fun e => ?_⟩
  · rw [e] at h; exact h.symm
  · rw [e] at h; exact h
end
end Nm
set_option Elab.async false
set_option linter.all false
set_option maxRecDepth 100000
set_option maxHeartbeats 8000000
namespace Nm
open PySem PySem.Spec PyProof.Rows L2 Evl
section
variable {s t u : GS} {z : Str} {x y v : D} {l ms : List (Str × D)}
theorem srt_any {l : List (Str × D)} (hle : l.length ≤ 60) (hx : dvw s x = some (dZd l)) : fSorted [x] s = some (.lst (strsD (srtZ (l.map (·.1)))), s) :=
  fSorted_dict hx (keyS_dS l) (by rw [List.length_map]; omega)
theorem key_at {l : List (Str × D)} {i : Nat} {d : D} (h : (strsD (srtZ (l.map (·.1))))[i]? = some d) : ∃ z, (srtZ (l.map (·.1)))[i]? = some z ∧ d = .v (.str z) ∧ z ∈ l.map (·.1) := by
  unfold strsD at h
  rw [List.getElem?_map] at h
  obtain ⟨z, hz, e⟩ := Option.map_eq_some_iff.mp h
  exact ⟨z, hz, e.symm, mem_srt.mp (List.mem_of_getElem? hz)⟩
theorem FdOk.key (fo : FdOk l) (h : z ∈ l.map (·.1)) : z.length ≤ 100 ∧ ∀ c ∈ z.cps.toList, c < 128 := by
  obtain ⟨p, hp, rfl⟩ := List.mem_map.mp h
  exact fo.ks p hp
theorem MkOk.key (fo : MkOk l) (h : z ∈ l.map (·.1)) : z.length ≤ 100 ∧ ∀ c ∈ z.cps.toList, c < 128 := by
  obtain ⟨p, hp, rfl⟩ := List.mem_map.mp h
  exact fo.ks p hp
theorem VF.nx (h : VF v) : ∀ c fs, v ≠ .exn c fs := by
  rcases h with ⟨w, rfl, _, _⟩ | h
  · exact fun c fs e => by cases e
  · exact (not_text h).2.2
theorem badF_sg (h : sgZ z = false) : badFz l z = some (.sg, z) := by unfold badFz; rw [h]; rfl
theorem badF_fo (h : sgZ z = true) (hv : vl l z = some v) (hg : goodF v = false) : badFz l z = some (.fo, z) := by unfold badFz; rw [h, hv]; simp only [if_true, hg, Bool.false_and, Bool.false_eq_true, if_false]
theorem badF_an (h : sgZ z = true) (hv : vl l z = some v) (hg : anyF l v = true) : badFz l z = some (.fo, z) := by unfold badFz; rw [h, hv]; simp only [if_true, hg, Bool.not_true, Bool.and_false, Bool.false_eq_true, if_false]
theorem badF_no (h : sgZ z = true) (hv : vl l z = some v) (hg : goodF v = true) (ha : anyF l v = false) : badFz l z = none := by unfold badFz; rw [h, hv]; simp only [if_true, hg, ha, Bool.not_false, Bool.and_true]
theorem badM_sg (h : sgZ z = false) : badMz l ms z = some (.sg, z) := by unfold badMz; rw [h]; rfl
theorem badM_cl (h : sgZ z = true) (hv : vl ms z = some v) (hg : goodM v = false) : badMz l ms z = some (.mk, z) := by unfold badMz; rw [h, hv]; simp only [if_true, hg, Bool.false_and, Bool.false_eq_true, if_false]
theorem badM_in (h : sgZ z = true) (hv : vl ms z = some v) (hg : (vl l z).isSome = true) : badMz l ms z = some (.mk, z) := by unfold badMz; rw [h, hv]; simp only [if_true, hg, Bool.not_true, Bool.and_false, Bool.false_eq_true, if_false]
theorem badM_no (h : sgZ z = true) (hv : vl ms z = some v) (hg : goodM v = true) (ha : (vl l z).isSome = false) : badMz l ms z = none := by unfold badMz; rw [h, hv]; simp only [if_true, hg, ha, Bool.not_false, Bool.and_true]
theorem good_text (h : VF v) (hg : goodF v = true) : ∃ w : List Nat, v = .v (.str (stL w)) ∧ w.length ≤ 3 ∧ anyF l v = w.any (fun c => (vl l (sgS c)).isSome) := by
  rcases h with ⟨w, rfl, h1, h2⟩ | h
  · have : Wd w 3 := (upTo_iff (n := 3)).mp hg
    exact ⟨w, rfl, this.le, rfl⟩
  · rw [(not_text h).2.1] at hg; cases hg
theorem check_foldsS (fo : FdOk l) (hx : dvw s x = some (dZd l)) :
    m__check_folds [x] s = match dueF l with | none => some (.ok (.v .non) s) | some p => some (.ex p.1.cl [("sign", .v (.str p.2))] s) := by
  have srt := srt_any fo.le hx
  have nx := no_exn hx
  have fin : We (mFn 1 3 bm__check_folds [x] s) ⟨fun d t => dueF l = none ∧ d = .v .non ∧ t = s, fun c fl t => ∃ p, dueF l = some p ∧ c = p.1.cl ∧ fl = [(("sign" : Str), D.v (.str p.2))] ∧ t = s⟩ := by
    unfold bm__check_folds
    rw [w_fn]
    refine ⟨rfl, ?_⟩
    have it : mItems (mCB fSorted (mCons (mVar 0) mNil)) [some x, none, none] s = some (.ok (strsD (srtZ (l.map (·.1)))) s) := by
      have v0 : mVar 0 [some x, none, none] s = some (.ok x s) := mVar_of rfl nx
      simp only [mItems, mCB, mCons, mNil, v0, bn, srt, lft, itemsOf]
    refine for_items it ?_
    refine w_loop (fun i e t => t = s ∧ ∃ o1, ((srtZ (l.map (·.1))).drop i).findSome? (badFz l) = dueF l ∧ e = [some x, o1, none]) _ 0 _ _ ⟨rfl, none, by rw [List.drop_zero]; rfl, rfl⟩ ?_ ?_
    · rintro i d e t hi ⟨rfl, o1, hb, rfl⟩
      rw [Nat.zero_add] at hb ⊢
      obtain ⟨z, hz, rfl, hm⟩ := key_at hi
      obtain ⟨v, hv⟩ := vl_some hm
      have vf := fo.vs _ (vl_mem hv)
      have kz := fo.key hm
      have ix : fIx x (.v (.str z)) t = some (v, t) := fIx_dict hx hv
      have q1 := sign_any (s := t) (z := z) (by have := kz.1; omega)
      have q2 := fold_any (s := t) vf
      have nk : ∀ {Q : Kq D} {s : GS}, kVar (some (some x)) Q s = Q.ok x s := fun {Q s} => kv_of nx
      have h2 := fs_step (show (z :: (srtZ (l.map (·.1))).drop (i + 1)).findSome? (badFz l) = dueF l from by rw [← drop_at hz]; exact hb)
      generalize dueF l = DU at *
      cases sg : sgZ z with
      | false =>
        rw [sg] at q1
        have h3 := h2.1 _ (badF_sg sg)
        simp only [wW, q1, nk, kRaise, erFs]
        first | exact ⟨_, h3, rfl, rfl, rfl⟩ | exact ⟨_, h3, rfl, rfl⟩ | exact ⟨_, h3, rfl⟩
      | true =>
        rw [sg] at q1
        cases gf : goodF v with
        | false =>
          rw [gf] at q2
          have h3 := h2.1 _ (badF_fo sg hv gf)
          simp only [wW, q1, ix, q2, nk, kRaise, erFs]
          first | exact ⟨_, h3, rfl, rfl, rfl⟩ | exact ⟨_, h3, rfl, rfl⟩ | exact ⟨_, h3, rfl⟩
        | true =>
          rw [gf] at q2
          obtain ⟨w, rfl, lw, ea⟩ := good_text (l := l) vf gf
          have v0 : mVar 0 [some x, some (.v (.str z)), none] t = some (.ok x t) := mVar_of rfl nx
          have v1 : mVar 1 [some x, some (.v (.str z)), none] t = some (.ok (.v (.str z)) t) := rfl
          have ixm : mOp fIx (mVar 0) (mVar 1) [some x, some (.v (.str z)), none] t = some (.ok (.v (.str (stL w))) t) := by simp only [mOp, v0, v1, bn, ix, lft]
          have an : mLc (mItems (mOp fIx (mVar 0) (mVar 1))) (mgName 2) mYes (mOp fIn (mVar 2) (mVar 0)) [2] [some x, some (.v (.str z)), none] t = some (.ok (.lst (w.map fun a => .v (.bl (vl l (sgS a)).isSome))) t) :=
            lc_all _ ixm (by show w.length ≤ _; omega) fun a ha => by
              show mOp fIn (mVar 2) (mVar 0) [some x, some (.v (.str z)), some (.v (.str (sgS a)))] t = _
              have v2 : mVar 2 [some x, some (.v (.str z)), some (.v (.str (sgS a)))] t = some (.ok (.v (.str (sgS a))) t) := rfl
              have v0' : mVar 0 [some x, some (.v (.str z)), some (.v (.str (sgS a)))] t = some (.ok x t) := mVar_of rfl nx
              have fi : fIn (.v (.str (sgS a))) x t = some (.v (.bl (vl l (sgS a)).isSome), t) := fIn_dict hx
              simp only [mOp, v2, v0', bn, fi, lft]
          have q3 := fAny_map (fun a => (vl l (sgS a)).isSome) w t
          cases hq : (w.any fun a => (vl l (sgS a)).isSome) with
          | true =>
            have h3 := h2.1 _ (badF_an sg hv (ea.trans hq))
            rw [hq] at q3
            generalize (w.map fun a => D.v (.bl (vl l (sgS a)).isSome)) = AL at *
            generalize stL w = SW at *
            simp only [wW, q1, ix, q2, an, q3, nk, kRaise, erFs]
            first | exact ⟨_, h3, rfl, rfl, rfl⟩ | exact ⟨_, h3, rfl, rfl⟩ | exact ⟨_, h3, rfl⟩
          | false =>
            have h3 := h2.2 (badF_no sg hv gf (ea.trans hq))
            rw [hq] at q3
            generalize (w.map fun a => D.v (.bl (vl l (sgS a)).isSome)) = AL at *
            generalize stL w = SW at *
            simp only [wW, q1, ix, q2, an, q3, nk]
            first | exact ⟨_, h3, rfl⟩ | exact ⟨h3, rfl⟩ | exact h3
    · rintro e t ⟨rfl, o1, hb, rfl⟩
      have : dueF l = none := by
        rw [← hb]
        rw [Nat.zero_add, show (strsD (srtZ (l.map (·.1)))).length = (srtZ (l.map (·.1))).length from List.length_map .., List.drop_length]
        rfl
      simp only [wW]
      first | exact this | exact ⟨this, rfl, rfl⟩
  match hr : mFn 1 3 bm__check_folds [x] s, fin with
  | some (.ok d t), ⟨h1, h2, h3⟩ =>
    rw [h1]
    subst h2 h3
    exact gc_nil hr rfl
  | some (.ex c fl t), ⟨i, h1, h2, h3, h4⟩ =>
    rw [h1]
    subst h2 h3 h4
    exact gc_nilx hr rfl
theorem check_marksS (mo : MkOk ms) (hx : dvw s x = some (dZd ms)) (hy : dvw s y = some (dZd l)) :
    m__check_marks [x, y] s = match dueM l ms with | none => some (.ok (.v .non) s) | some p => some (.ex p.1.cl [("sign", .v (.str p.2))] s) := by
  have srt := srt_any mo.le hx
  have nx := no_exn hx
  have ny := no_exn hy
  have fin : We (mFn 2 3 bm__check_marks [x, y] s) ⟨fun d t => dueM l ms = none ∧ d = .v .non ∧ t = s, fun c fl t => ∃ p, dueM l ms = some p ∧ c = p.1.cl ∧ fl = [(("sign" : Str), D.v (.str p.2))] ∧ t = s⟩ := by
    unfold bm__check_marks
    rw [w_fn]
    refine ⟨rfl, ?_⟩
    have it : mItems (mCB fSorted (mCons (mVar 0) mNil)) [some x, some y, none] s = some (.ok (strsD (srtZ (ms.map (·.1)))) s) := by
      have v0 : mVar 0 [some x, some y, none] s = some (.ok x s) := mVar_of rfl nx
      simp only [mItems, mCB, mCons, mNil, v0, bn, srt, lft, itemsOf]
    refine for_items it ?_
    refine w_loop (fun i e t => t = s ∧ ∃ o1, ((srtZ (ms.map (·.1))).drop i).findSome? (badMz l ms) = dueM l ms ∧ e = [some x, some y, o1]) _ 0 _ _ ⟨rfl, none, by rw [List.drop_zero]; rfl, rfl⟩ ?_ ?_
    · rintro i d e t hi ⟨rfl, o1, hb, rfl⟩
      rw [Nat.zero_add] at hb ⊢
      obtain ⟨z, hz, rfl, hm⟩ := key_at hi
      obtain ⟨v, hv⟩ := vl_some hm
      have vf := mo.vs _ (vl_mem hv)
      have kz := mo.key hm
      have ix : fIx x (.v (.str z)) t = some (v, t) := fIx_dict hx hv
      have q1 := sign_any (s := t) (z := z) (by have := kz.1; omega)
      have q2 := class_any (s := t) vf
      have im : fIn (.v (.str z)) y t = some (.v (.bl (vl l z).isSome), t) := fIn_dict hy
      have nk : ∀ {Q : Kq D} {s : GS}, kVar (some (some x)) Q s = Q.ok x s := fun {Q s} => kv_of nx
      have nk2 : ∀ {Q : Kq D} {s : GS}, kVar (some (some y)) Q s = Q.ok y s := fun {Q s} => kv_of ny
      have h2 := fs_step (show (z :: (srtZ (ms.map (·.1))).drop (i + 1)).findSome? (badMz l ms) = dueM l ms from by rw [← drop_at hz]; exact hb)
      generalize dueM l ms = DU at *
      cases sg : sgZ z with
      | false =>
        rw [sg] at q1
        have h3 := h2.1 _ (badM_sg sg)
        simp only [wW, q1, nk, nk2, kRaise, erFs]
        first | exact ⟨_, h3, rfl, rfl, rfl⟩ | exact ⟨_, h3, rfl, rfl⟩ | exact ⟨_, h3, rfl⟩
      | true =>
        rw [sg] at q1
        cases gf : goodM v with
        | false =>
          rw [gf] at q2
          have h3 := h2.1 _ (badM_cl sg hv gf)
          simp only [wW, q1, ix, q2, nk, nk2, kRaise, erFs]
          first | exact ⟨_, h3, rfl, rfl, rfl⟩ | exact ⟨_, h3, rfl, rfl⟩ | exact ⟨_, h3, rfl⟩
        | true =>
          rw [gf] at q2
          cases hq : (vl l z).isSome with
          | true =>
            rw [hq] at im
            have h3 := h2.1 _ (badM_in sg hv hq)
            simp only [wW, q1, ix, q2, im, nk, nk2, kRaise, erFs]
            first | exact ⟨_, h3, rfl, rfl, rfl⟩ | exact ⟨_, h3, rfl, rfl⟩ | exact ⟨_, h3, rfl⟩
          | false =>
            rw [hq] at im
            have h3 := h2.2 (badM_no sg hv gf hq)
            simp only [wW, q1, ix, q2, im, nk, nk2]
            first | exact ⟨_, h3, rfl⟩ | exact ⟨h3, rfl⟩ | exact h3
    · rintro e t ⟨rfl, o1, hb, rfl⟩
      have : dueM l ms = none := by
        rw [← hb]
        rw [Nat.zero_add, show (strsD (srtZ (ms.map (·.1)))).length = (srtZ (ms.map (·.1))).length from List.length_map .., List.drop_length]
        rfl
      simp only [wW]
      first | exact this | exact ⟨this, rfl, rfl⟩
  match hr : mFn 2 3 bm__check_marks [x, y] s, fin with
  | some (.ok d t), ⟨h1, h2, h3⟩ =>
    rw [h1]
    subst h2 h3
    exact gc_nil hr rfl
  | some (.ex c fl t), ⟨i, h1, h2, h3, h4⟩ =>
    rw [h1]
    subst h2 h3 h4
    exact gc_nilx hr rfl
end
end Nm
set_option Elab.async false
set_option linter.all false
set_option maxRecDepth 100000
set_option maxHeartbeats 8000000
namespace Nm
open PySem PySem.Spec PyProof.Rows L2 Evl
section
variable {s t u : GS} {z : Str} {x y v : D} {l ms : List (Str × D)}
def fdsOf (l : List (Str × D)) : Fds := l.map fun p => (p.1.cps.toList.headD 0, letF p.2)
def mksOf (l : List (Str × D)) : Mks := l.map fun p => (p.1.cps.toList.headD 0, match p.2 with | .v (.int i) => i | _ => 0)
theorem sg_of (h : sgZ z = true) : ∃ c, z = sgS c ∧ sgn c = true ∧ z.cps.toList.headD 0 = c := by
  unfold sgZ at h
  split at h
  · rename_i c hc
    exact ⟨c, by rw [← stL_of z, hc]; rfl, h, by rw [hc]; rfl⟩
  · cases h
theorem two_of : ∀ {l : List (Str × D)}, (l.map (·.1)).Nodup → ∀ {a : Str} {b v : D}, (a, b) ∈ l → (a, v) ∈ l → b = v
  | [], hn, a, b, v, h1, h2 => by cases h1
  | q :: r, hn, a, b, v, h1, h2 => by
    rw [List.map_cons, List.nodup_cons] at hn
    rcases List.mem_cons.mp h1 with e1 | k1
    · rcases List.mem_cons.mp h2 with e2 | k2
      · rw [← e1] at e2; exact (Prod.mk.inj e2).2.symm
      · refine (hn.1 ?_).elim
        rw [← e1]
        exact List.mem_map.mpr ⟨_, k2, rfl⟩
    · rcases List.mem_cons.mp h2 with e2 | k2
      · refine (hn.1 ?_).elim
        rw [← e2]
        exact List.mem_map.mpr ⟨_, k1, rfl⟩
      · exact two_of hn.2 k1 k2
theorem dueF_none (fo : FdOk l) (h : dueF l = none) : ∀ p ∈ l, sgZ p.1 = true ∧ goodF p.2 = true ∧ anyF l p.2 = false := by
  intro p hp
  have h1 := List.findSome?_eq_none_iff.mp h p.1 (mem_srt.mpr (List.mem_map.mpr ⟨p, hp, rfl⟩))
  have hv : vl l p.1 = some p.2 := by
    obtain ⟨v, hv⟩ := vl_some (l := l) (List.mem_map.mpr ⟨p, hp, rfl⟩)
    have hm := vl_mem hv
    rw [hv, two_of fo.nd (a := p.1) (b := p.2) hp hm]
  cases sg : sgZ p.1 with
  | false => rw [badF_sg sg] at h1; cases h1
  | true =>
    cases g : goodF p.2 with
    | false => rw [badF_fo sg hv g] at h1; cases h1
    | true =>
      cases a : anyF l p.2 with
      | true => rw [badF_an sg hv a] at h1; cases h1
      | false => exact ⟨rfl, rfl, rfl⟩
theorem dueM_none (mo : MkOk ms) (h : dueM l ms = none) : ∀ p ∈ ms, sgZ p.1 = true ∧ goodM p.2 = true ∧ vl l p.1 = none := by
  intro p hp
  have h1 := List.findSome?_eq_none_iff.mp h p.1 (mem_srt.mpr (List.mem_map.mpr ⟨p, hp, rfl⟩))
  have hv : vl ms p.1 = some p.2 := by
    obtain ⟨v, hv⟩ := vl_some (l := ms) (List.mem_map.mpr ⟨p, hp, rfl⟩)
    have hm := vl_mem hv
    rw [hv, two_of mo.nd (a := p.1) (b := p.2) hp hm]
  cases sg : sgZ p.1 with
  | false => rw [badM_sg sg] at h1; cases h1
  | true =>
    cases g : goodM p.2 with
    | false => rw [badM_cl sg hv g] at h1; cases h1
    | true =>
      cases a : vl l p.1 with
      | some w => rw [badM_in sg hv (by rw [a]; rfl)] at h1; cases h1
      | none => exact ⟨rfl, rfl, rfl⟩
theorem dF_fds (fo : FdOk l) (h : dueF l = none) : dF (fdsOf l) = dZd l := by
  unfold dF fdsOf dZd
  rw [List.map_map]
  refine List.map_congr_left fun p hp => ?_
  obtain ⟨h1, h2, _⟩ := dueF_none fo h p hp
  obtain ⟨c, e1, _, e3⟩ := sg_of h1
  obtain ⟨w, e4, _, _⟩ := good_text (l := l) (fo.vs p hp) h2
  obtain ⟨a, b⟩ := p
  dsimp only at e1 e3 e4 ⊢
  subst e4
  show ((Sum.inr (sgS (a.cps.toList.headD 0)) : Key), D.v (.str (stL (stL w).cps.toList))) = _
  rw [e3, stL_codes, ← e1]
theorem dM_mks (mo : MkOk ms) (h : dueM l ms = none) : dM (mksOf ms) = dZd ms := by
  unfold dM mksOf dZd
  rw [List.map_map]
  refine List.map_congr_left fun p hp => ?_
  obtain ⟨h1, h2, _⟩ := dueM_none mo h p hp
  obtain ⟨c, e1, _, e3⟩ := sg_of h1
  obtain ⟨a, b⟩ := p
  dsimp only at e1 e3 h2 ⊢
  unfold goodM at h2
  split at h2
  · show ((Sum.inr (sgS (a.cps.toList.headD 0)) : Key), _) = _
    rw [e3, ← e1]
  · cases h2
theorem nd_of {κ β : Type} {l : List κ} {f : κ → Str} {g : κ → Nat} (h : (l.map f).Nodup) (e : ∀ p ∈ l, f p = sgS (g p)) : (l.map g).Nodup := by
  induction l with
  | nil => exact List.nodup_nil
  | cons a r ih =>
    rw [List.map_cons, List.nodup_cons] at h ⊢
    refine ⟨fun hm => ?_, ih h.2 fun p hp => e p (List.mem_cons_of_mem _ hp)⟩
    obtain ⟨q, hq, eq⟩ := List.mem_map.mp hm
    refine h.1 (List.mem_map.mpr ⟨q, hq, ?_⟩)
    rw [e q (List.mem_cons_of_mem _ hq), e a (List.mem_cons_self ..), eq]
theorem rule_due (fo : FdOk l) (mo : MkOk ms) (hf : dueF l = none) (hm : dueM l ms = none) (h40 : l.length ≤ 40) (h8 : ms.length ≤ 8) : RuleOk (fdsOf l) (mksOf ms) := by
  have lkv : ∀ c, vl l (sgS c) = (lk (fdsOf l) c).map fun w => .v (.str (stL w)) := fun c => by rw [← valD_dF, dF_fds fo hf]; rfl
  have lkn : ∀ c, vl l (sgS c) = none → lk (fdsOf l) c = none := fun c h => by
    rw [lkv] at h
    cases e : lk (fdsOf l) c with
    | none => rfl
    | some w => rw [e] at h; cases h
  refine ⟨?_, ?_, ?_, by unfold fdsOf; rw [List.length_map]; exact h40, ?_, ?_, ?_, by unfold mksOf; rw [List.length_map]; exact h8⟩
  · unfold fdsOf
    rw [List.map_map]
    refine nd_of (β := D) fo.nd fun p hp => ?_
    obtain ⟨c, e1, _, e3⟩ := sg_of (dueF_none fo hf p hp).1
    show _ = sgS (p.1.cps.toList.headD 0)
    rw [e3]; exact e1
  · rintro q hq
    obtain ⟨p, hp, rfl⟩ := List.mem_map.mp hq
    obtain ⟨c, e1, e2, e3⟩ := sg_of (dueF_none fo hf p hp).1
    show sgn (p.1.cps.toList.headD 0) = true
    rw [e3]; exact e2
  · rintro q hq
    obtain ⟨p, hp, rfl⟩ := List.mem_map.mp hq
    obtain ⟨h1, h2, h3⟩ := dueF_none fo hf p hp
    obtain ⟨w, e4, e5, e6⟩ := good_text (l := l) (fo.vs p hp) h2
    have ew : letF p.2 = w := by rw [e4]; exact stL_codes ..
    show Wd (letF p.2) 3 ∧ ∀ c ∈ letF p.2, _
    rw [ew]
    rw [e4] at h2
    refine ⟨(upTo_iff (n := 3)).mp h2, fun c hc => lkn c ?_⟩
    rw [e6] at h3
    have := List.any_eq_false.mp h3 c hc
    cases e : vl l (sgS c) with
    | none => rfl
    | some w => rw [e] at this; exact absurd rfl this
  · unfold mksOf
    rw [List.map_map]
    refine nd_of (β := D) mo.nd fun p hp => ?_
    obtain ⟨c, e1, _, e3⟩ := sg_of (dueM_none mo hm p hp).1
    show _ = sgS (p.1.cps.toList.headD 0)
    rw [e3]; exact e1
  · rintro q hq
    obtain ⟨p, hp, rfl⟩ := List.mem_map.mp hq
    obtain ⟨h1, h2, h3⟩ := dueM_none mo hm p hp
    obtain ⟨c, e1, e2, e3⟩ := sg_of h1
    show sgn (p.1.cps.toList.headD 0) = true ∧ lk (fdsOf l) (p.1.cps.toList.headD 0) = none
    rw [e3]
    rw [e1] at h3
    exact ⟨e2, lkn c h3⟩
  · rintro q hq
    obtain ⟨p, hp, rfl⟩ := List.mem_map.mp hq
    obtain ⟨h1, h2, h3⟩ := dueM_none mo hm p hp
    obtain ⟨a, b⟩ := p
    dsimp only at h2 ⊢
    unfold goodM at h2
    split at h2
    · have h2 := of_decide_eq_true h2
      try dsimp only
      omega
    · cases h2
theorem sizesS (hx : dvw s x = some (dZd l)) (hy : dvw s y = some (dZd ms)) (lx : l.length ≤ 60) (ly : ms.length ≤ 60) :
    m__check_sizes [x, y] s = if 40 < l.length then some (.ex "TooMany" [("limit", .v (.int 40))] s) else if 8 < ms.length then some (.ex "TooMany" [("limit", .v (.int 8))] s) else some (.ok (.v .non) s) := by
  have nx := no_exn hx
  have ny := no_exn hy
  have l1 : fLen [x] s = some (.v (.int (l.length : Nat)), s) := by have := fLen_dict hx; rwa [show (dZd l).length = l.length from List.length_map ..] at this
  have l2 : fLen [y] s = some (.v (.int (ms.length : Nat)), s) := by have := fLen_dict hy; rwa [show (dZd ms).length = ms.length from List.length_map ..] at this
  have nk : ∀ {Q : Kq D} {s : GS}, kVar (some (some x)) Q s = Q.ok x s := fun {Q s} => kv_of nx
  have nk2 : ∀ {Q : Kq D} {s : GS}, kVar (some (some y)) Q s = Q.ok y s := fun {Q s} => kv_of ny
  have e1 : D.v kc_MOST_FOLDS = .v (.int 40) := rfl
  have e2 : D.v kc_MOST_MARKS = .v (.int 8) := rfl
  have fin : We (mFn 2 2 bm__check_sizes [x, y] s) ⟨fun d t => ¬ 40 < l.length ∧ ¬ 8 < ms.length ∧ d = .v .non ∧ t = s, fun c fl t => c = "TooMany" ∧ t = s ∧ ((40 < l.length ∧ fl = [(("limit" : Str), D.v (.int 40))]) ∨ (¬ 40 < l.length ∧ 8 < ms.length ∧ fl = [(("limit" : Str), D.v (.int 8))]))⟩ := by
    unfold bm__check_sizes
    rw [w_fn]
    refine ⟨rfl, ?_⟩
    have g : ∀ i j : Int, fGt (.v (.int i)) (.v (.int j)) s = some (.v (.bl (decide (j < i))), s) := fun _ _ => rfl
    by_cases h1 : 40 < l.length
    · have g1 := g (l.length : Nat) 40
      rw [decide_eq_true (by omega)] at g1
      simp only [wW, l1, g1, nk, nk2, e1, kRaise, erFs]
      first | done | exact Or.inl ⟨h1, rfl⟩ | exact ⟨rfl, rfl, Or.inl ⟨h1, rfl⟩⟩ | simp [h1]
    · have g1 := g (l.length : Nat) 40
      rw [decide_eq_false (by omega)] at g1
      by_cases h2 : 8 < ms.length
      · have g2 := g (ms.length : Nat) 8
        rw [decide_eq_true (by omega)] at g2
        simp only [wW, l1, l2, g1, g2, nk, nk2, e1, e2, kRaise, erFs]
        first | done | exact Or.inr ⟨h1, h2, rfl⟩ | exact ⟨rfl, rfl, Or.inr ⟨h1, h2, rfl⟩⟩ | simp [h1, h2]
      · have g2 := g (ms.length : Nat) 8
        rw [decide_eq_false (by omega)] at g2
        simp only [wW, l1, l2, g1, g2, nk, nk2, e1, e2]
        first | done | exact ⟨h1, h2⟩ | exact ⟨h1, h2, rfl, rfl⟩
  match hr : mFn 2 2 bm__check_sizes [x, y] s, fin with
  | some (.ok d t), ⟨h1, h2, h3, h4⟩ =>
    rw [if_neg h1, if_neg h2]
    subst h3 h4
    exact gc_nil hr rfl
  | some (.ex c fl t), ⟨h1, h2, h3⟩ =>
    subst h1 h2
    rcases h3 with ⟨h3, rfl⟩ | ⟨h3, h4, rfl⟩
    · rw [if_pos h3]
      exact gc_nilx hr rfl
    · rw [if_neg h3, if_pos h4]
      exact gc_nilx hr rfl
/-- what the table raises -/
def erD (l ms : List (Str × D)) : Option (Str × Str × D) := match dueF l with
  | some p => some (p.1.cl, "sign", .v (.str p.2))
  | none => match dueM l ms with
    | some p => some (p.1.cl, "sign", .v (.str p.2))
    | none => if 40 < l.length then some ("TooMany", "limit", .v (.int 40)) else if 8 < ms.length then some ("TooMany", "limit", .v (.int 8)) else none
theorem make_any {A : MA} {env : EnvD} (fo : FdOk l) (mo : MkOk ms) (hA : A env s = some (.ok [x, y] t)) (hx : dvw t x = some (dZd l)) (hy : dvw t y = some (dZd ms)) :
    match erD l ms with
    | some (c, f, d) => mRest (mMake "Table" m_Table___init__ [] A) env s = some (.ex c [(f, d)] (t ++ [.ins "Table" []]))
    | none => ∃ d, mRest (mMake "Table" m_Table___init__ [] A) env s = some (.ok d (t ++ [.free])) := by
  have nx := no_exn hx
  have ny := no_exn hy
  have hx' := dvw_app (t := [Cell.ins "Table" []]) hx
  have hy' := dvw_app (t := [Cell.ins "Table" []]) hy
  have q1 := check_foldsS fo hx'
  have q2 := check_marksS mo hy' hx'
  have q3 := sizesS hx' hy' fo.le mo.le
  have v1 : ∀ s', mVar 1 [some (.obj t.length), some x, some y] s' = some (.ok x s') := fun _ => mVar_of rfl nx
  have v2 : ∀ s', mVar 2 [some (.obj t.length), some x, some y] s' = some (.ok y s') := fun _ => mVar_of rfl ny
  have ini : ∀ {c : Str} {fl : List (Str × D)}, (∀ {r : RO D}, bm_Table___init__ [some (.obj t.length), some x, some y] (t ++ [.ins "Table" []]) = some (.ex c fl [some (.obj t.length), some x, some y] (t ++ [.ins "Table" []]))) → mRest (mMake "Table" m_Table___init__ [] A) env s = some (.ex c fl (t ++ [.ins "Table" []])) := by
    intro c fl h
    have i : m_Table___init__ [.obj t.length, x, y] (t ++ [.ins "Table" []]) = some (.ex c fl (t ++ [.ins "Table" []])) := by
      refine gc_nilx ?_ rfl
      show (match bm_Table___init__ [some (.obj t.length), some x, some y] (t ++ [.ins "Table" []]) with | some (.rt d s) => some (Re.ok d s) | some (.nx _ s) => some (.ok (.v .non) s) | some (.ex c fs _ s) => some (.ex c fs s) | _ => none) = _
      rw [h (r := none)]
    unfold mRest mMake
    rw [hA]
    show bn (bn (m_Table___init__ (.obj t.length :: ([x, y] ++ [])) (t ++ [.ins "Table" []])) _) _ = _
    rw [List.append_nil, i]
    rfl
  unfold erD
  cases hf : dueF l with
  | some p =>
    rw [hf] at q1
    dsimp only at q1 ⊢
    refine ini fun {r} => ?_
    unfold bm_Table___init__
    simp only [mSeq, mDrop, mCall, mCons, mNil, v1, v2, bn, bnS, List.append_nil, q1]
  | none =>
    rw [hf] at q1
    dsimp only at q1 ⊢
    cases hm : dueM l ms with
    | some p =>
      rw [hm] at q2
      dsimp only at q2 ⊢
      refine ini fun {r} => ?_
      unfold bm_Table___init__
      simp only [mSeq, mDrop, mCall, mCons, mNil, v1, v2, bn, bnS, List.append_nil, q1, q2]
    | none =>
      rw [hm] at q2
      dsimp only at q2 ⊢
      by_cases h40 : 40 < l.length
      · rw [if_pos h40] at q3 ⊢
        dsimp only
        refine ini fun {r} => ?_
        unfold bm_Table___init__
        simp only [mSeq, mDrop, mCall, mCons, mNil, v1, v2, bn, bnS, List.append_nil, q1, q2, q3]
      · rw [if_neg h40] at q3 ⊢
        by_cases h8 : 8 < ms.length
        · rw [if_pos h8] at q3 ⊢
          dsimp only
          refine ini fun {r} => ?_
          unfold bm_Table___init__
          simp only [mSeq, mDrop, mCall, mCons, mNil, v1, v2, bn, bnS, List.append_nil, q1, q2, q3]
        · rw [if_neg h8] at q3 ⊢
          dsimp only
          have ro := rule_due fo mo hf hm (by omega) (by omega)
          exact ⟨_, make_ok ro hA (by rw [dF_fds fo hf]; exact hx) (by rw [dM_mks mo hm]; exact hy)⟩
theorem alone_sg (d : D) : q__law_alone [.exn "NoSign" [("sign", d)]] t = some (.ok (.v (.bl true)) t) := gc_nil (by kernel_rfl) rfl
theorem alone_fo (d : D) : q__law_alone [.exn "NoFold" [("sign", d)]] t = some (.ok (.v (.bl true)) t) := gc_nil (by kernel_rfl) rfl
theorem alone_mk (d : D) : q__law_alone [.exn "NoMark" [("sign", d)]] t = some (.ok (.v (.bl true)) t) := gc_nil (by kernel_rfl) rfl
end
end Nm
set_option Elab.async false
set_option linter.all false
set_option maxRecDepth 100000
set_option maxHeartbeats 8000000
namespace Nm
open PySem PySem.Spec PyProof.Rows L2 Evl
section
variable {s t u : GS} {z : Str} {x y v : D} {l ms : List (Str × D)}
theorem error_any (fo : FdOk l) (mo : MkOk ms) (wf : Wf s) (hx : dvw s x = some (dZd l)) (hy : dvw s y = some (dZd ms)) : q__law_error [x, y] s = some (.ok (dueD l ms) s) := by
  have nx := no_exn hx
  have ny := no_exn hy
  have q := fun o2 => make_any (A := mCons (mVar 0) (mCons (mVar 1) mNil)) (env := [some x, some y, o2]) (s := s) (t := s) fo mo (by
    have v0 : mVar 0 [some x, some y, o2] s = some (.ok x s) := mVar_of rfl nx
    have v1 : mVar 1 [some x, some y, o2] s = some (.ok y s) := mVar_of rfl ny
    simp only [mCons, mNil, v0, v1, bn]) hx hy
  have fin : We (mFn 2 3 bq__law_error [x, y] s) ⟨fun d u => d = dueD l ms ∧ (∀ j, j < s.length → u[j]? = s[j]?) ∧ s.length ≤ u.length, fun _ _ _ => False⟩ := by
    have ap : ∀ (c : Cell), (∀ j, j < s.length → (s ++ [c])[j]? = s[j]?) ∧ s.length ≤ (s ++ [c]).length := fun c => ⟨fun j hj => List.getElem?_append_left hj, by rw [List.length_append]; omega⟩
    have hE1 : ("NoSign" : Str) ∈ errNames := by decide +kernel
    have hE2 : ("NoFold" : Str) ∈ errNames := by decide +kernel
    have hE3 : ("NoMark" : Str) ∈ errNames := by decide +kernel
    have hE4 : ("TooMany" : Str) ∈ errNames := by decide +kernel
    have hM1 : ("NoSign" : Str) ∈ [("NoSign" : Str)] := List.mem_singleton.mpr rfl
    have hM2 : ("NoFold" : Str) ∈ [("NoFold" : Str)] := List.mem_singleton.mpr rfl
    have hM3 : ("NoMark" : Str) ∈ [("NoMark" : Str)] := List.mem_singleton.mpr rfl
    have hM4 : ("TooMany" : Str) ∈ [("TooMany" : Str)] := List.mem_singleton.mpr rfl
    have n21 : ¬ ("NoFold" : Str) ∈ [("NoSign" : Str)] := by decide +kernel
    have n31 : ¬ ("NoMark" : Str) ∈ [("NoSign" : Str)] := by decide +kernel
    have n32 : ¬ ("NoMark" : Str) ∈ [("NoFold" : Str)] := by decide +kernel
    have n41 : ¬ ("TooMany" : Str) ∈ [("NoSign" : Str)] := by decide +kernel
    have n42 : ¬ ("TooMany" : Str) ∈ [("NoFold" : Str)] := by decide +kernel
    have n43 : ¬ ("TooMany" : Str) ∈ [("NoMark" : Str)] := by decide +kernel
    rw [w_fn]
    refine ⟨rfl, ?_⟩
    rw [E02_all]
    have sgc : ∀ (k : Kd) (z : Str) (hd : dueD l ms = .tup [.v (.str k.nm), .v (.str z)]) (he : ∀ o2, mRest (mMake "Table" m_Table___init__ [] (mCons (mVar 0) (mCons (mVar 1) mNil))) [some x, some y, o2] s = some (.ex k.cl [("sign", .v (.str z))] (s ++ [.ins "Table" []]))),
        Wt (E02_B [some x, some y, none] s)
        {nx := fun _ s_1 => False, rt := fun d u => d = dueD l ms ∧ (∀ j, j < s.length → u[j]? = s[j]?) ∧ s.length ≤ u.length} := by
      intro k z hd he
      obtain ⟨a1, a2⟩ := ap (.ins "Table" [])
      rw [hd]
      unfold E02_B E02_0 E02_1
      generalize s ++ [Cell.ins "Table" []] = S at *
      have x1 : ∀ o0 o1, mCallA 2 q__law_alone [o0, o1, some (.exn k.cl [("sign", .v (.str z))])] S = some (.ok (.v (.bl true)) S) := fun o0 o1 => by
        unfold mCallA nrM
        simp only [List.getElem?_cons_succ, List.getElem?_cons_zero]
        cases k
        · simp only [Kd.cl, alone_sg]
        · simp only [Kd.cl, alone_fo]
        · simp only [Kd.cl, alone_mk]
      cases k with
      | sg =>
        have x2 : ∀ o0 o1, mXf 2 "sign" ["NoSign"] [o0, o1, some (.exn "NoSign" [("sign", .v (.str z))])] S = some (.ok (.v (.str z)) S) := fun _ _ => rfl
        simp only [Kd.cl, Kd.nm] at *
        simp only [wW, he, hE1, hM1, setX, x1, x2]
        first | done | exact ⟨a1, a2⟩ | exact ⟨rfl, a1, a2⟩
      | fo =>
        have x2 : ∀ o0 o1, mXf 2 "sign" ["NoFold"] [o0, o1, some (.exn "NoFold" [("sign", .v (.str z))])] S = some (.ok (.v (.str z)) S) := fun _ _ => rfl
        simp only [Kd.cl, Kd.nm] at *
        simp only [wW, he, hE2, hM2, n21, setX, x1, x2]
        first | done | exact ⟨a1, a2⟩ | exact ⟨rfl, a1, a2⟩
      | mk =>
        have x2 : ∀ o0 o1, mXf 2 "sign" ["NoMark"] [o0, o1, some (.exn "NoMark" [("sign", .v (.str z))])] S = some (.ok (.v (.str z)) S) := fun _ _ => rfl
        simp only [Kd.cl, Kd.nm] at *
        simp only [wW, he, hE3, hM3, n31, n32, setX, x1, x2]
        first | done | exact ⟨a1, a2⟩ | exact ⟨rfl, a1, a2⟩
    have mnc : ∀ (n : Int) (hd : dueD l ms = .tup [.v (.str "many"), .v (.int n)]) (he : ∀ o2, mRest (mMake "Table" m_Table___init__ [] (mCons (mVar 0) (mCons (mVar 1) mNil))) [some x, some y, o2] s = some (.ex "TooMany" [("limit", .v (.int n))] (s ++ [.ins "Table" []]))),
        Wt (E02_B [some x, some y, none] s)
        {nx := fun _ s_1 => False, rt := fun d u => d = dueD l ms ∧ (∀ j, j < s.length → u[j]? = s[j]?) ∧ s.length ≤ u.length} := by
      intro n hd he
      obtain ⟨a1, a2⟩ := ap (.ins "Table" [])
      rw [hd]
      unfold E02_B E02_0 E02_1
      generalize s ++ [Cell.ins "Table" []] = S at *
      have x2 : ∀ o0 o1, mXf 2 "limit" ["TooMany"] [o0, o1, some (.exn "TooMany" [("limit", .v (.int n))])] S = some (.ok (.v (.int n)) S) := fun _ _ => rfl
      have x3 : ∀ o0 o1, mXis 2 "TooMany" true [o0, o1, some (.exn "TooMany" [("limit", .v (.int n))])] S = some (.ok (.v (.bl true)) S) := fun _ _ => rfl
      have x4 : ∀ o0 o1, mXis 2 "TooMany" false [o0, o1, some (.exn "TooMany" [("limit", .v (.int n))])] S = some (.ok (.v (.bl false)) S) := fun _ _ => rfl
      simp only [wW, he, hE4, hM4, n41, n42, n43, setX, x2, x3, x4]
      first | done | exact ⟨a1, a2⟩ | exact ⟨rfl, a1, a2⟩
    have lift : ∀ {r : Option SR}, Wt r {nx := fun _ s_1 => False, rt := fun d u => d = dueD l ms ∧ (∀ j, j < s.length → u[j]? = s[j]?) ∧ s.length ≤ u.length} → Wt r {nx := fun _ s_1 => D.v .non = dueD l ms ∧ (∀ j, j < s.length → s_1[j]? = s[j]?) ∧ s.length ≤ s_1.length, rt := fun d u => d = dueD l ms ∧ (∀ j, j < s.length → u[j]? = s[j]?) ∧ s.length ≤ u.length} := fun h => Wt.imp h (fun _ _ h => h.elim) (fun _ _ h => h)
    refine lift ?_
    unfold erD at q
    cases hf : dueF l with
    | some p =>
      rw [hf] at q
      exact sgc p.1 p.2 (by unfold dueD; rw [hf]) q
    | none =>
      rw [hf] at q
      dsimp only at q
      cases hm : dueM l ms with
      | some p =>
        rw [hm] at q
        exact sgc p.1 p.2 (by unfold dueD; rw [hf]; dsimp only; rw [hm]) q
      | none =>
        rw [hm] at q
        dsimp only at q
        by_cases h40 : 40 < l.length
        · rw [if_pos h40] at q
          exact mnc 40 (by unfold dueD; rw [hf]; dsimp only; rw [hm]; dsimp only; rw [if_pos h40]) q
        · rw [if_neg h40] at q
          by_cases h8 : 8 < ms.length
          · rw [if_pos h8] at q
            exact mnc 8 (by unfold dueD; rw [hf]; dsimp only; rw [hm]; dsimp only; rw [if_neg h40, if_pos h8]) q
          · rw [if_neg h8] at q
            have hd : dueD l ms = .tup [] := by unfold dueD; rw [hf]; dsimp only; rw [hm]; dsimp only; rw [if_neg h40, if_neg h8]
            rw [hd]
            obtain ⟨d, qe⟩ := q none
            obtain ⟨a1, a2⟩ := ap .free
            generalize s ++ [Cell.free] = S at *
            unfold E02_B E02_0 E02_1
            simp only [wW, qe]
            first | done | exact ⟨a1, a2⟩ | exact ⟨rfl, a1, a2⟩
  obtain ⟨d, u, e, rfl, h2, h3⟩ := We.get fin
  refine gc_end e h2 h3 wf ?_
  unfold dueD
  cases dueF l with
  | some p => rfl
  | none =>
    cases dueM l ms with
    | some p => rfl
    | none =>
      dsimp only
      split
      · rfl
      · split <;> rfl
end
end Nm
set_option Elab.async false
set_option linter.all false
set_option maxRecDepth 100000
set_option maxHeartbeats 8000000
namespace Nm
open PySem PySem.Spec PyProof.Rows L2 Evl
section
variable {s t u : GS} {z : Str} {x y v : D} {l ms : List (Str × D)}
theorem chain_le {B : ME} {e : EnvD} {i lo hi : Int} (hB : B e s = some (.ok (.v (.int i)) s)) : mChain fLe fLe (mC (.int lo)) B (mC (.int hi)) e s = some (.ok (.v (.bl (decide (lo ≤ i) && decide (i ≤ hi)))) s) := by
  have le : ∀ i j : Int, fLe (.v (.int i)) (.v (.int j)) s = some (.v (.bl (decide (i ≤ j))), s) := fun _ _ => rfl
  simp only [mChain, mC, hB, bn, le, lft]
  by_cases h : lo ≤ i
  · rw [decide_eq_true h]; rfl
  · rw [decide_eq_false h]; rfl
theorem ones_w {w : List Nat} (h : ∀ c ∈ w, sgn c = true) : Ws 1 (w.map fun c => [c]) := fun a ha => by
  obtain ⟨c, hc, rfl⟩ := List.mem_map.mp ha
  exact ⟨by simp, by simp, fun d hd => by rw [List.mem_singleton] at hd; rw [hd]; exact h c hc⟩
theorem ones_t (w : List Nat) : (w.map fun c => D.v (.str (sgS c))) = txD (w.map fun c => [c]) := by
  unfold txD
  rw [List.map_map]
  rfl
/-- one key of the folds -/
theorem fold_turn {o3 o4 : Option D} (fo : FdOk l) (hx : dvw t x = some (dZd l)) (hm : z ∈ l.map (·.1)) :
    Wt (D02_0_B [some x, some y, some (.v (.str z)), o3, o4] t) {nx := fun e u => u = t ∧ badFz l z = none ∧ ∃ o3 o4, e = [some x, some y, some (.v (.str z)), o3, o4], rt := fun d u => u = t ∧ ∃ p, badFz l z = some p ∧ d = .tup [.v (.str p.1.nm), .v (.str p.2)]} := by
  have nx := no_exn hx
  obtain ⟨v, hv⟩ := vl_some hm
  have vf := fo.vs _ (vl_mem hv)
  have kz := fo.key hm
  have ix : fIx x (.v (.str z)) t = some (v, t) := fIx_dict hx hv
  have q1 := lawSign_any (s := t) (z := z) kz.2 (by have := kz.1; omega)
  have nk : ∀ {Q : Kq D} {s : GS}, kVar (some (some x)) Q s = Q.ok x s := fun {Q s} => kv_of nx
  have nv : ∀ {Q : Kq D} {s : GS}, kVar (some (some v)) Q s = Q.ok v s := fun {Q s} => kv_of vf.nx
  unfold D02_0_B D02_0_0 D02_0_1 D02_0_2 D02_0_3
  cases sg : sgZ z with
  | false =>
    rw [sg] at q1
    have h3 := badF_sg (l := l) sg
    generalize badFz l z = BF at *
    simp only [wW, ix, q1, nk, nv]
    first | exact ⟨_, h3, rfl⟩ | exact ⟨rfl, _, h3, rfl⟩
  | true =>
    rw [sg] at q1
    rcases vf with ⟨w, rfl, lw, aw⟩ | ho
    · have l3 : fIsi [.v (.str (stL w)), .v (.ty "str")] t = some (.v (.bl true), t) := rfl
      have ln : mCB fLen (mCons (mVar 3) mNil) [some x, some y, some (.v (.str z)), some (.v (.str (stL w))), o4] t = some (.ok (.v (.int (w.length : Nat))) t) := by
        have v3 : mVar 3 [some x, some y, some (.v (.str z)), some (.v (.str (stL w))), o4] t = some (.ok (.v (.str (stL w))) t) := rfl
        have := fLen_st (s := t) (l := w) (by omega)
        simp only [mCB, mCons, mNil, v3, bn, this, lft]
      have ch := chain_le (lo := 1) (hi := 3) ln
      have al : mLcA 3 (mgName 4) mYes (mCall q__law_is_sign [] (mCons (mVar 4) mNil)) [4] [some x, some y, some (.v (.str z)), some (.v (.str (stL w))), o4] t = some (.ok (.lst (w.map fun c => .v (.bl (sgn c)))) t) :=
        lcA_all (fun c => .v (.bl (sgn c))) rfl (by omega) fun a ha => by
          show mCall q__law_is_sign [] (mCons (mVar 4) mNil) [some x, some y, some (.v (.str z)), some (.v (.str (stL w))), some (.v (.str (sgS a)))] t = _
          have v4 : mVar 4 [some x, some y, some (.v (.str z)), some (.v (.str (stL w))), some (.v (.str (sgS a)))] t = some (.ok (.v (.str (sgS a))) t) := rfl
          have q : q__law_is_sign [.v (.str (sgS a))] t = some (.ok (.v (.bl (sgn a))) t) := lawSign_any (s := t) (z := sgS a) (fun c hc => by have hc : c ∈ [a] := hc; rw [List.mem_singleton] at hc; rw [hc]; exact aw a ha) (by show 1 ≤ 100000; decide)
          simp only [mCall, mCons, mNil, v4, bn, List.append_nil, q]
      have fa := fAll_map sgn w t
      have up : goodF (.v (.str (stL w))) = (decide ((1 : Int) ≤ (w.length : Nat)) && decide (((w.length : Nat) : Int) ≤ 3) && w.all sgn) := by
        show upTo (stL w) 3 = _
        unfold upTo
        rw [stL_codes, stL_len, Bool.and_assoc]
      cases hc : (decide ((1 : Int) ≤ (w.length : Nat)) && decide (((w.length : Nat) : Int) ≤ 3)) with
      | false =>
        rw [hc] at ch up
        have h3 := badF_fo (l := l) sg hv (up.trans (Bool.false_and ..))
        generalize badFz l z = BF at *
        generalize stL w = SW at *
        simp only [wW, ix, q1, nk, nv, l3, ch]
        first | exact ⟨_, h3, rfl⟩ | exact ⟨rfl, _, h3, rfl⟩
      | true =>
        rw [hc] at ch up
        cases hw : w.all sgn with
        | false =>
          rw [hw] at up fa
          have h3 := badF_fo (l := l) sg hv up
          generalize badFz l z = BF at *
          generalize (w.map fun c => D.v (.bl (sgn c))) = AL at *
          generalize stL w = SW at *
          simp only [wW, ix, q1, nk, nv, l3, ch, al, fa]
          first | exact ⟨_, h3, rfl⟩ | exact ⟨rfl, _, h3, rfl⟩
        | true =>
          rw [hw] at up fa
          have sw : ∀ c ∈ w, sgn c = true := fun c hc => List.all_eq_true.mp hw c hc
          have an : mLcA 3 (mgName 4) (mTest (mOp fIn (mVar 4) (mVar 0))) (mVar 4) [4] [some x, some y, some (.v (.str z)), some (.v (.str (stL w))), o4] t = some (.ok (.lst ((w.filter fun a => (vl l (sgS a)).isSome).map fun a => .v (.str (sgS a)))) t) :=
            lcA_text (fun a => (vl l (sgS a)).isSome) (fun a => .v (.str (sgS a))) rfl (by omega) fun a ha => by
              refine ⟨?_, fun _ => rfl⟩
              show mTest (mOp fIn (mVar 4) (mVar 0)) [some x, some y, some (.v (.str z)), some (.v (.str (stL w))), some (.v (.str (sgS a)))] t = _
              have v4 : mVar 4 [some x, some y, some (.v (.str z)), some (.v (.str (stL w))), some (.v (.str (sgS a)))] t = some (.ok (.v (.str (sgS a))) t) := rfl
              have v0 : mVar 0 [some x, some y, some (.v (.str z)), some (.v (.str (stL w))), some (.v (.str (sgS a)))] t = some (.ok x t) := mVar_of rfl nx
              have fi : fIn (.v (.str (sgS a))) x t = some (.v (.bl (vl l (sgS a)).isSome), t) := fIn_dict hx
              simp only [mTest, mOp, v4, v0, bn, fi, lft, bOf]
          rw [ones_t] at an
          have ne := fNe_nil (n := 1) (ws := (w.filter fun a => (vl l (sgS a)).isSome).map fun c => [c]) (s := t) (ones_w fun c hc => sw c (List.mem_filter.mp hc).1)
          have ea : anyF l (.v (.str (stL w))) = !decide (((w.filter fun a => (vl l (sgS a)).isSome).map fun c => [c]) = []) := by
            show (w.any fun a => (vl l (sgS a)).isSome) = _
            cases k : (w.any fun a => (vl l (sgS a)).isSome) with
            | true =>
              obtain ⟨a, ha, hk⟩ := List.any_eq_true.mp k
              rw [decide_eq_false (fun h => by
                have := List.map_eq_nil_iff.mp h
                have hm : a ∈ w.filter fun a => (vl l (sgS a)).isSome := List.mem_filter.mpr ⟨ha, hk⟩
                rw [this] at hm
                cases hm)]
              rfl
            | false =>
              rw [decide_eq_true]
              · rfl
              · rw [List.map_eq_nil_iff, List.filter_eq_nil_iff]
                exact fun a ha => List.any_eq_false.mp k a ha
          rw [← ea] at ne
          cases hq : anyF l (.v (.str (stL w))) with
          | true =>
            rw [hq] at ne
            have h3 := badF_an (l := l) sg hv hq
            generalize badFz l z = BF at *
            generalize (w.map fun c => D.v (.bl (sgn c))) = AL at *
            generalize txD ((w.filter fun a => (vl l (sgS a)).isSome).map fun c => [c]) = TX at *
            generalize stL w = SW at *
            simp only [wW, ix, q1, nk, nv, l3, ch, al, fa, an, ne]
            first | exact ⟨_, h3, rfl⟩ | exact ⟨rfl, _, h3, rfl⟩
          | false =>
            rw [hq] at ne
            have h3 := badF_no (l := l) sg hv up hq
            generalize badFz l z = BF at *
            generalize (w.map fun c => D.v (.bl (sgn c))) = AL at *
            generalize txD ((w.filter fun a => (vl l (sgS a)).isSome).map fun c => [c]) = TX at *
            generalize stL w = SW at *
            simp only [wW, ix, q1, nk, nv, l3, ch, al, fa, an, ne]
            first | exact ⟨h3, _, _, rfl⟩ | exact ⟨rfl, h3, _, _, rfl⟩
    · obtain ⟨h1, h2, _⟩ := not_text ho
      have h1 := h1 t
      have h3 := badF_fo (l := l) sg hv h2
      generalize badFz l z = BF at *
      simp only [wW, ix, q1, nk, nv, h1]
      first | exact ⟨_, h3, rfl⟩ | exact ⟨rfl, _, h3, rfl⟩
/-- one key of the marks -/
theorem mark_turn2 {o3 o4 : Option D} (mo : MkOk ms) (hx : dvw t x = some (dZd l)) (hy : dvw t y = some (dZd ms)) (hm : z ∈ ms.map (·.1)) :
    Wt (D02_1_B [some x, some y, some (.v (.str z)), o3, o4] t) {nx := fun e u => u = t ∧ badMz l ms z = none ∧ e = [some x, some y, some (.v (.str z)), o3, o4], rt := fun d u => u = t ∧ ∃ p, badMz l ms z = some p ∧ d = .tup [.v (.str p.1.nm), .v (.str p.2)]} := by
  have nx := no_exn hx
  have ny := no_exn hy
  obtain ⟨v, hv⟩ := vl_some hm
  have vf := mo.vs _ (vl_mem hv)
  have kz := mo.key hm
  have ix : fIx y (.v (.str z)) t = some (v, t) := fIx_dict hy hv
  have im : fIn (.v (.str z)) x t = some (.v (.bl (vl l z).isSome), t) := fIn_dict hx
  have q1 := lawSign_any (s := t) (z := z) kz.2 (by have := kz.1; omega)
  have nk : ∀ {Q : Kq D} {s : GS}, kVar (some (some x)) Q s = Q.ok x s := fun {Q s} => kv_of nx
  have nk2 : ∀ {Q : Kq D} {s : GS}, kVar (some (some y)) Q s = Q.ok y s := fun {Q s} => kv_of ny
  obtain ⟨b1, b2, c1, c2, c3⟩ := law_class vf
  have c1 := c1 t
  have c2 := c2 t
  unfold D02_1_B D02_1_0 D02_1_1
  cases sg : sgZ z with
  | false =>
    rw [sg] at q1
    have h3 := badM_sg (l := l) (ms := ms) sg
    generalize badMz l ms z = BF at *
    simp only [wW, ix, q1, nk, nk2]
    first | exact ⟨_, h3, rfl⟩ | exact ⟨rfl, _, h3, rfl⟩
  | true =>
    rw [sg] at q1
    cases b1 with
    | true =>
      have h3 := badM_cl (l := l) sg hv (by cases g : goodM v with | false => rfl | true => rw [g] at c3; cases c3)
      generalize badMz l ms z = BF at *
      simp only [wW, ix, q1, nk, nk2, c1]
      first | exact ⟨_, h3, rfl⟩ | exact ⟨rfl, _, h3, rfl⟩
    | false =>
      cases b2 with
      | true =>
        have h3 := badM_cl (l := l) sg hv (by cases g : goodM v with | false => rfl | true => rw [g] at c3; cases c3)
        generalize badMz l ms z = BF at *
        simp only [wW, ix, q1, nk, nk2, c1, c2]
        first | exact ⟨_, h3, rfl⟩ | exact ⟨rfl, _, h3, rfl⟩
      | false =>
        have g : goodM v = true := by cases g : goodM v with | true => rfl | false => rw [g] at c3; cases c3
        cases hq : (vl l z).isSome with
        | true =>
          rw [hq] at im
          have h3 := badM_in (l := l) sg hv hq
          generalize badMz l ms z = BF at *
          simp only [wW, ix, q1, nk, nk2, c1, c2, im]
          first | exact ⟨_, h3, rfl⟩ | exact ⟨rfl, _, h3, rfl⟩
        | false =>
          rw [hq] at im
          have h3 := badM_no (l := l) sg hv g hq
          generalize badMz l ms z = BF at *
          simp only [wW, ix, q1, nk, nk2, c1, c2, im]
          first | exact h3 | exact ⟨h3, rfl⟩ | exact ⟨rfl, h3, rfl⟩
theorem due_any (fo : FdOk l) (mo : MkOk ms) (hx : dvw s x = some (dZd l)) (hy : dvw s y = some (dZd ms)) : q__law_due [x, y] s = some (.ok (dueD l ms) s) := by
  have nx := no_exn hx
  have ny := no_exn hy
  have sx := srt_any fo.le hx
  have sy := srt_any mo.le hy
  have nk : ∀ {Q : Kq D} {s : GS}, kVar (some (some x)) Q s = Q.ok x s := fun {Q s} => kv_of nx
  have nk2 : ∀ {Q : Kq D} {s : GS}, kVar (some (some y)) Q s = Q.ok y s := fun {Q s} => kv_of ny
  have l1 : fLen [x] s = some (.v (.int (l.length : Nat)), s) := by have := fLen_dict hx; rwa [show (dZd l).length = l.length from List.length_map ..] at this
  have l2 : fLen [y] s = some (.v (.int (ms.length : Nat)), s) := by have := fLen_dict hy; rwa [show (dZd ms).length = ms.length from List.length_map ..] at this
  have g : ∀ i j : Int, fGt (.v (.int i)) (.v (.int j)) s = some (.v (.bl (decide (j < i))), s) := fun _ _ => rfl
  refine We.eq (s0 := s) (w_gc0 ?_)
  rw [w_fn]
  refine ⟨rfl, ?_⟩
  rw [D02_all]
  unfold D02_B
  rw [w_seq]
  unfold D02_0
  have it : ∀ o2 o3 o4, mItems (mCB fSorted (mCons (mVar 0) mNil)) [some x, some y, o2, o3, o4] s = some (.ok (strsD (srtZ (l.map (·.1)))) s) := fun o2 o3 o4 => by
    have v0 : mVar 0 [some x, some y, o2, o3, o4] s = some (.ok x s) := mVar_of rfl nx
    simp only [mItems, mCB, mCons, mNil, v0, bn, sx, lft, itemsOf]
  have it2 : ∀ o2 o3 o4, mItems (mCB fSorted (mCons (mVar 1) mNil)) [some x, some y, o2, o3, o4] s = some (.ok (strsD (srtZ (ms.map (·.1)))) s) := fun o2 o3 o4 => by
    have v1 : mVar 1 [some x, some y, o2, o3, o4] s = some (.ok y s) := mVar_of rfl ny
    simp only [mItems, mCB, mCons, mNil, v1, bn, sy, lft, itemsOf]
  refine for_items (it _ _ _) ?_
  refine w_loop (fun i e t => t = s ∧ ∃ o2 o3 o4, ((srtZ (l.map (·.1))).drop i).findSome? (badFz l) = dueF l ∧ e = [some x, some y, o2, o3, o4]) _ 0 _ _ ⟨rfl, none, none, none, by rw [List.drop_zero]; rfl, rfl⟩ ?_ ?_
  · rintro i d e t hi ⟨rfl, o2, o3, o4, hb, rfl⟩
    rw [Nat.zero_add] at hb ⊢
    obtain ⟨z, hz, rfl, hm⟩ := key_at hi
    have h2 := fs_step (show (z :: (srtZ (l.map (·.1))).drop (i + 1)).findSome? (badFz l) = dueF l from by rw [← drop_at hz]; exact hb)
    have tn := fold_turn (y := y) (o3 := o3) (o4 := o4) fo hx hm
    show Wt (D02_0_B [some x, some y, some (.v (.str z)), o3, o4] t) _
    refine Wt.imp tn ?_ ?_
    · rintro e u ⟨rfl, h3, o3, o4, rfl⟩
      exact ⟨rfl, _, _, _, h2.2 h3, rfl⟩
    · rintro d u ⟨rfl, p, h3, rfl⟩
      have h4 := h2.1 p h3
      have hd : dueD l ms = .tup [.v (.str p.1.nm), .v (.str p.2)] := by unfold dueD; rw [h4]
      rw [hd]
      simp only [wW]
      first | done | rfl | exact ⟨rfl, rfl⟩
  · rintro e t ⟨rfl, o2, o3, o4, hb, rfl⟩
    have hf : dueF l = none := by
      rw [← hb]
      rw [Nat.zero_add, show (strsD (srtZ (l.map (·.1)))).length = (srtZ (l.map (·.1))).length from List.length_map .., List.drop_length]
      rfl
    rw [w_kseq, w_seq]
    unfold D02_1
    refine for_items (it2 _ _ _) ?_
    refine w_loop (fun i e u => u = t ∧ ∃ o2, ((srtZ (ms.map (·.1))).drop i).findSome? (badMz l ms) = dueM l ms ∧ e = [some x, some y, o2, o3, o4]) _ 0 _ _ ⟨rfl, o2, by rw [List.drop_zero]; rfl, rfl⟩ ?_ ?_
    · rintro i d e u hi ⟨rfl, o2, hb, rfl⟩
      rw [Nat.zero_add] at hb ⊢
      obtain ⟨z, hz, rfl, hm⟩ := key_at hi
      have h2 := fs_step (show (z :: (srtZ (ms.map (·.1))).drop (i + 1)).findSome? (badMz l ms) = dueM l ms from by rw [← drop_at hz]; exact hb)
      have tn := mark_turn2 (o3 := o3) (o4 := o4) mo hx hy hm
      show Wt (D02_1_B [some x, some y, some (.v (.str z)), o3, o4] u) _
      refine Wt.imp tn ?_ ?_
      · rintro e u ⟨rfl, h3, rfl⟩
        exact ⟨rfl, _, h2.2 h3, rfl⟩
      · rintro d u ⟨rfl, p, h3, rfl⟩
        have h4 := h2.1 p h3
        have hd : dueD l ms = .tup [.v (.str p.1.nm), .v (.str p.2)] := by unfold dueD; rw [hf]; dsimp only; rw [h4]
        rw [hd]
        simp only [wW]
        first | done | rfl | exact ⟨rfl, rfl⟩
    · rintro e u ⟨rfl, o2, hb, rfl⟩
      have hm : dueM l ms = none := by
        rw [← hb]
        rw [Nat.zero_add, show (strsD (srtZ (ms.map (·.1)))).length = (srtZ (ms.map (·.1))).length from List.length_map .., List.drop_length]
        rfl
      have hd : dueD l ms = if 40 < l.length then .tup [.v (.str "many"), .v (.int 40)] else if 8 < ms.length then .tup [.v (.str "many"), .v (.int 8)] else .tup [] := by
        unfold dueD; rw [hf]; dsimp only; rw [hm]
      rw [hd]
      unfold D02_2 D02_3
      by_cases h1 : 40 < l.length
      · have g1 := g (l.length : Nat) 40
        rw [decide_eq_true (by omega)] at g1
        rw [if_pos h1]
        simp only [wW, l1, g1, nk, nk2]
        first | done | rfl | exact ⟨rfl, rfl⟩
      · have g1 := g (l.length : Nat) 40
        rw [decide_eq_false (by omega)] at g1
        rw [if_neg h1]
        by_cases h2 : 8 < ms.length
        · have g2 := g (ms.length : Nat) 8
          rw [decide_eq_true (by omega)] at g2
          rw [if_pos h2]
          simp only [wW, l1, l2, g1, g2, nk, nk2]
          first | done | rfl | exact ⟨rfl, rfl⟩
        · have g2 := g (ms.length : Nat) 8
          rw [decide_eq_false (by omega)] at g2
          rw [if_neg h2]
          simp only [wW, l1, l2, g1, g2, nk, nk2]
          first | done | rfl | exact ⟨rfl, rfl⟩
end
end Nm
set_option Elab.async false
set_option linter.all false
set_option maxRecDepth 100000
set_option maxHeartbeats 8000000
namespace Nm
open PySem PySem.Spec PyProof.Rows L2 Evl
section
variable {s t u st : GS} {z : Str} {x y v : D} {l ms l' : List (Str × D)} {b : Nat} {k : Int}
/-- the same keys and values, in any order -/
structure Turn (l l' : List (Str × D)) : Prop where
  ky : (l'.map (·.1)).Perm (l.map (·.1))
  vl : ∀ z, Nm.vl l' z = Nm.vl l z
theorem Turn.srt (h : Turn l l') : srtZ (l'.map (·.1)) = srtZ (l.map (·.1)) := srtZ_one ((srtZ_perm _).trans h.ky) (srtZ_sorted _)
theorem Turn.len (h : Turn l l') : l'.length = l.length := by
  have := h.ky.length_eq
  rwa [List.length_map, List.length_map] at this
theorem Turn.dueF (h : Turn l l') : dueF l' = Nm.dueF l := by
  have e : badFz l' = badFz l := by
    funext z
    unfold badFz anyF
    simp only [h.vl]
  unfold Nm.dueF
  rw [h.srt, e]
theorem Turn.dueM {m m' : List (Str × D)} (h : Turn l l') (h' : Turn m m') : dueM l' m' = Nm.dueM l m := by
  have e : badMz l' m' = badMz l m := by
    funext z
    unfold badMz
    simp only [h.vl, h'.vl]
  unfold Nm.dueM
  rw [h'.srt, e]
theorem Turn.dueD {m m' : List (Str × D)} (h : Turn l l') (h' : Turn m m') : dueD l' m' = Nm.dueD l m := by
  unfold Nm.dueD
  rw [h.dueF, h.dueM h', h.len, h'.len]
theorem val_in {p : Str × D} (hn : (l.map (·.1)).Nodup) (hp : p ∈ l) : Nm.vl l p.1 = some p.2 := by
  obtain ⟨v, hv⟩ := vl_some (l := l) (List.mem_map.mpr ⟨p, hp, rfl⟩)
  have hm := vl_mem hv
  rw [hv, two_of hn (a := p.1) (b := p.2) hp hm]
theorem vl_none (h : z ∉ l.map (·.1)) : Nm.vl l z = none := by
  cases e : Nm.vl l z with
  | none => rfl
  | some v => exact absurd (List.mem_map.mpr ⟨_, vl_mem e, rfl⟩) h
theorem Turn.mk' (hn : (l.map (·.1)).Nodup) (hk : (l'.map (·.1)).Perm (l.map (·.1))) (hv : ∀ p ∈ l', Nm.vl l p.1 = some p.2) : Turn l l' := by
  refine ⟨hk, fun z => ?_⟩
  have hn' : (l'.map (·.1)).Nodup := hk.nodup_iff.mpr hn
  by_cases h : z ∈ l'.map (·.1)
  · obtain ⟨p, hp, rfl⟩ := List.mem_map.mp h
    rw [val_in hn' hp, hv p hp]
  · rw [vl_none h, vl_none fun h' => h (hk.mem_iff.mpr h')]
theorem Turn.mem (hn : (l.map (·.1)).Nodup) (h : Turn l l') {p : Str × D} (hp : p ∈ l') : p ∈ l := by
  have e := h.vl p.1
  rw [val_in (h.ky.nodup_iff.mpr hn) hp] at e
  exact vl_mem e.symm
theorem FdOk.turn (fo : FdOk l) (h : Turn l l') : FdOk l' := ⟨h.ky.nodup_iff.mpr fo.nd, by rw [h.len]; exact fo.le, fun p hp => fo.ks p (h.mem fo.nd hp), fun p hp => fo.vs p (h.mem fo.nd hp)⟩
theorem MkOk.turn (fo : MkOk l) (h : Turn l l') : MkOk l' := ⟨h.ky.nodup_iff.mpr fo.nd, by rw [h.len]; exact fo.le, fun p hp => fo.ks p (h.mem fo.nd hp), fun p hp => fo.vs p (h.mem fo.nd hp)⟩
theorem bd_VF (h : VF v) (n : Nat) : bdD n v = true := by
  rcases h with ⟨w, rfl, _⟩ | h
  · rfl
  · unfold otF at h
    simp only [List.mem_cons, List.not_mem_nil, or_false] at h
    rcases h with rfl | rfl | rfl | rfl | rfl <;> rfl
theorem bd_otM (h : v ∈ otM) (n : Nat) : bdD n v = true := by
  unfold otM at h
  simp only [List.mem_cons, List.not_mem_nil, or_false] at h
  rcases h with rfl | rfl | rfl | rfl | rfl | rfl | rfl | rfl | rfl | rfl | rfl | rfl <;> rfl
theorem bd_dS {n : Nat} : ∀ {l : List (Str × D)}, (∀ p ∈ l, bdD n p.2 = true) → bdKs n (dZd l) = true
  | [], _ => rfl
  | p :: r, h => by
    show (bdD n p.2 && bdKs n (dZd r)) = true
    rw [h p (List.mem_cons_self ..), bd_dS fun q hq => h q (List.mem_cons_of_mem _ hq)]
    rfl
theorem FdOk.bd (fo : FdOk l) (n : Nat) : bdKs n (dZd l) = true := bd_dS fun p hp => bd_VF (fo.vs p hp) n
theorem MkOk.bd (fo : MkOk l) (n : Nat) : bdKs n (dZd l) = true := bd_dS fun p hp => bd_otM (fo.vs p hp) n
def Ak (zs : List Str) : Prop := ∀ z ∈ zs, ∀ c ∈ z.cps.toList, c < 128
theorem strOk_a (h : ∀ c ∈ z.cps.toList, c < 128) : PyData.strOk z = true := by
  unfold PyData.strOk
  rw [Array.all_eq_true']
  intro c hc
  have := h c (by simpa using hc)
  exact decide_eq_true (by omega)
theorem lay_a : ∀ {zs : List Str}, Ak zs → PyData.canLayAll0 (zs.map PyData.str) = true
  | [], _ => by simp [PyData.canLayAll0]
  | w :: r, h => by
    rw [List.map_cons]
    simp only [PyData.canLayAll0, PyData.canLay0, strOk_a (h w (List.mem_cons_self ..)), lay_a (zs := r) fun x hx => h x (List.mem_cons_of_mem _ hx), Bool.and_self]
theorem dep_a : ∀ zs : List Str, PyData.depthAll (zs.map PyData.str) ≤ 1
  | [] => by simp [PyData.depthAll]
  | w :: r => by
    have := dep_a r
    rw [List.map_cons]
    simp only [PyData.depthAll, PyData.depth]
    omega
theorem shp_a {zs : List Str} (h : Ak zs) : SeqAt.shaped (.list (zs.map PyData.str)) = true := by
  have e : (PyData.list (zs.map PyData.str)).canLay0 = true := by
    simp only [PyData.canLay0]
    exact lay_a h
  have d : (PyData.list (zs.map PyData.str)).depth ≤ 2 := by
    have := dep_a zs
    simp only [PyData.depth]
    omega
  unfold SeqAt.shaped
  rw [e, decide_eq_true (by omega)]
  rfl
theorem pyDs_a : ∀ zs : List Str, pyDs (strsD zs) = some (zs.map PyData.str)
  | [] => rfl
  | w :: r => by
    have ih := pyDs_a r
    show pyDs (.v (.str w) :: strsD r) = _
    unfold pyDs
    rw [ih]
    rfl
theorem fNe_keys {m : Nat} {zs : List Str} (hc : s[m]? = some (.lst (strsD zs))) (h : Ak zs) : fNe (.obj m) (.lst []) s = some (.v (.bl (!decide (zs = []))), s) := by
  have hx : pyS s (.obj m) = some (.list (zs.map PyData.str)) := by simp only [pyS, lvX, hc]; rw [pyDs_a]; rfl
  have hd : dvw s (.obj m) = none := by simp only [dvw, hc]
  have e : eqAny s (.obj m) (.lst []) = some (decide (zs = [])) := by
    have e : eqAny s (.obj m) (.lst []) = (match pyS s (.obj m), pyS s (.lst []) with | some d, some e => if SeqAt.shaped d = true ∧ SeqAt.shaped e = true then some (PyData.eqv d e) else none | _, _ => elAny s (.obj m) (.lst [])) := by
      simp only [eqAny, hd] <;> rfl
    rw [e, hx, show pyS s (.lst []) = some (.list (([] : List Str).map PyData.str)) from rfl]
    dsimp only
    rw [if_pos ⟨shp_a h, shp_a fun _ z => nomatch z⟩]
    cases zs with
    | nil => simp [PyData.eqv, PyData.eqvAll]
    | cons a r => simp [PyData.eqv, PyData.eqvAll]
  unfold fNe
  rw [e]
  rfl
theorem put_cell {d k v : ME} {env : EnvD} {n : Nat} {w : Str} {x : D} {ks : List (Key × D)} (hv : v env s = some (.ok x t)) (hd : d env t = some (.ok (.obj n) t)) (hk : k env t = some (.ok (.v (.str w)) t)) (hc : t[n]? = some (.dic ks)) (hl : ks.length < 100000) :
    mSetI d k v env s = some (.nx env (t.set n (.dic (putD ks (Sum.inr w) x)))) := by
  unfold mSetI mDPut
  rw [hv]
  show (match bnS env (d env t) _ with | some r => some r | none => _) = _
  rw [hd]
  show (match bnS env (k env t) _ with | some r => some r | none => _) = _
  rw [hk]
  simp only [bnS, kOf, hc, hl, if_true]
theorem map_er {α β : Type} (f : α → β) : ∀ (l : List α) (n : Nat), (l.eraseIdx n).map f = (l.map f).eraseIdx n
  | [], n => by simp
  | a :: r, 0 => rfl
  | a :: r, n + 1 => by
    show f a :: (r.eraseIdx n).map f = f a :: (r.map f).eraseIdx n
    rw [map_er f r n]
theorem er_perm {α : Type} : ∀ {l : List α} {n : Nat} (h : n < l.length), (l[n]'h :: l.eraseIdx n).Perm l
  | [], n, h => absurd h (Nat.not_lt_zero _)
  | a :: r, 0, h => List.Perm.refl _
  | a :: r, n + 1, h => by
    have h' : n < r.length := Nat.lt_of_succ_lt_succ h
    show (r[n]'h' :: a :: r.eraseIdx n).Perm (a :: r)
    exact (List.Perm.swap _ _ _).trans ((er_perm h').cons a)
/-- what is in the making -/
structure Tn (st : GS) (b : Nat) (k : Int) (s : GS) (l : List (Str × D)) (m : Nat) (e : EnvD) (u : GS) : Prop where
  p : ∃ (left : List Str) (done : List (Str × D)) (s1 : GS) (o4 : Option D), m = left.length ∧ e = [some (.obj b), some (.dic (dZd l)), some (.obj s.length), some (.obj (s.length + 1)), o4] ∧
    u = s1 ++ [.lst (strsD left), .dic (dZd done)] ∧ Drw st b (k + (done.length : Nat)) s1 ∧ s1.length = s.length ∧ (done.map (·.1) ++ left).Perm (l.map (·.1)) ∧ (∀ p ∈ done, Nm.vl l p.1 = some p.2)
theorem turned_step (hn : (l.map (·.1)).Nodup) (hle : l.length ≤ 60) (ha : Ak (l.map (·.1))) (hk : k ≤ 1000000) {m : Nat} {e : EnvD} (h : Tn st b k s l m e u) :
    We ((mTest (mOp fNe (mVar 2) (mLst mNil))) e u) ⟨fun c u => if c = true then Wt ((mSeq (mAsg (mPopAt (mVar 2) (mCons (mCall m__law_take_d4ae [] (mCons (mVar 0) (mCons (mCB fLen (mCons (mVar 2) mNil)) mNil))) mNil)) (mgName 4)) (mSetI (mVar 3) (mVar 4) (mOp fIx (mVar 1) (mVar 4)))) e u) {nx := fun e s' => ∃ m', m' < m ∧ Tn st b k s l m' e s'} else Tn st b k s l 0 e u, fun _ _ _ => False⟩ := by
  obtain ⟨left, done, s1, o4, rfl, rfl, rfl, d1, l1, pm, hv⟩ := h.p
  have g1 : ∀ {s2 : GS} {c c' : Cell}, s2.length = s.length → (s2 ++ [c, c'])[s.length]? = some c := fun e => by rw [← e]; exact cell0
  have g2 : ∀ {s2 : GS} {c c' : Cell}, s2.length = s.length → (s2 ++ [c, c'])[s.length + 1]? = some c' := fun e => by rw [← e]; exact cell1
  have al : Ak left := fun z hz => ha z (pm.mem_iff.mp (List.mem_append_right _ hz))
  have ne := fNe_keys (g1 (c' := .dic (dZd done)) l1) al
  have v2 : ∀ o4 u, mVar 2 [some (.obj b), some (.dic (dZd l)), some (.obj s.length), some (.obj (s.length + 1)), o4] u = some (.ok (.obj s.length) u) := fun _ _ => rfl
  have tt : (mTest (mOp fNe (mVar 2) (mLst mNil))) [some (.obj b), some (.dic (dZd l)), some (.obj s.length), some (.obj (s.length + 1)), o4] (s1 ++ [.lst (strsD left), .dic (dZd done)]) = some (.ok (!decide (left = [])) (s1 ++ [.lst (strsD left), .dic (dZd done)])) := by
    have ml : ∀ u, mLst mNil [some (.obj b), some (.dic (dZd l)), some (.obj s.length), some (.obj (s.length + 1)), o4] u = some (.ok (.lst []) u) := fun _ => rfl
    simp only [mTest, mOp, v2, bn, ml, ne, lft, bOf]
  rw [tt]
  cases left with
  | nil =>
    rw [decide_eq_true rfl]
    exact h
  | cons a r =>
    rw [decide_eq_false (fun h => by cases h)]
    rw [We_ok]
    dsimp only
    rw [if_pos (by rfl)]
    have hlen : done.length + (a :: r).length ≤ 60 := by
      have := pm.length_eq
      rw [List.length_append, List.length_map, List.length_map] at this
      omega
    obtain ⟨q, s2, e2, q0, q1, d2⟩ := drawT [.lst (strsD (a :: r)), .dic (dZd done)] d1 (n := ((a :: r).length : Nat)) (by omega) (by simp only [List.length_cons]; omega) (by omega)
    have l2 : s2.length = s.length := by rw [← l1]; exact d2.len.trans d1.len.symm
    have ln : mCB fLen (mCons (mVar 2) mNil) [some (.obj b), some (.dic (dZd l)), some (.obj s.length), some (.obj (s.length + 1)), o4] (s1 ++ [.lst (strsD (a :: r)), .dic (dZd done)]) = some (.ok (.v (.int ((a :: r).length : Nat))) (s1 ++ [.lst (strsD (a :: r)), .dic (dZd done)])) := by
      have fl : fLen [.obj s.length] (s1 ++ [.lst (strsD (a :: r)), .dic (dZd done)]) = some (.v (.int ((a :: r).length : Nat)), s1 ++ [.lst (strsD (a :: r)), .dic (dZd done)]) := by
        have := fLen_cell (g1 (c' := .dic (dZd done)) (c := .lst (strsD (a :: r))) l1)
        rwa [show (strsD (a :: r)).length = (a :: r).length from List.length_map ..] at this
      simp only [mCB, mCons, mNil, v2, bn, fl, lft]
    have c1 := mtake_eq (ea := mVar 0) (eb := mCB fLen (mCons (mVar 2) mNil)) (env := [some (.obj b), some (.dic (dZd l)), some (.obj s.length), some (.obj (s.length + 1)), o4]) rfl ln e2
    have hq : q.toNat < (a :: r).length := by omega
    have hz : (strsD (a :: r))[q.toNat]? = some (.v (.str ((a :: r)[q.toNat]'hq))) := by
      unfold strsD
      rw [List.getElem?_map, List.getElem?_eq_getElem hq]
      rfl
    have he : (strsD (a :: r)).eraseIdx q.toNat = strsD ((a :: r).eraseIdx q.toNat) := by
      unfold strsD
      exact (map_er _ _ _).symm
    have pop : mPopAt (mVar 2) (mCons (mCall m__law_take_d4ae [] (mCons (mVar 0) (mCons (mCB fLen (mCons (mVar 2) mNil)) mNil))) mNil) [some (.obj b), some (.dic (dZd l)), some (.obj s.length), some (.obj (s.length + 1)), o4] (s1 ++ [.lst (strsD (a :: r)), .dic (dZd done)])
        = some (.ok (.v (.str ((a :: r)[q.toNat]'hq))) (s2 ++ [.lst (strsD ((a :: r).eraseIdx q.toNat)), .dic (dZd done)])) := by
      unfold mPopAt
      simp only [v2, bn, g1 l1]
      have cA : mCons (mCall m__law_take_d4ae [] (mCons (mVar 0) (mCons (mCB fLen (mCons (mVar 2) mNil)) mNil))) mNil [some (.obj b), some (.dic (dZd l)), some (.obj s.length), some (.obj (s.length + 1)), o4] (s1 ++ [.lst (strsD (a :: r)), .dic (dZd done)]) = some (.ok [.v (.int q)] (s2 ++ [.lst (strsD (a :: r)), .dic (dZd done)])) := by
        simp only [mCons, c1, bn, mNil]
      rw [cA]
      simp only [bn, g1 l2]
      have sl : (strsD (a :: r)).length = (a :: r).length := List.length_map ..
      rw [if_pos ⟨q0, by rw [sl]; exact q1, by omega⟩, hz]
      dsimp only
      rw [he, ← l2, cset0]
    generalize hzz : (a :: r)[q.toNat]'hq = z at *
    have pe : (z :: (a :: r).eraseIdx q.toNat).Perm (a :: r) := by
      rw [← hzz]
      exact er_perm hq
    have zl : z ∈ l.map (·.1) := pm.mem_iff.mp (List.mem_append_right _ (pe.mem_iff.mp (List.mem_cons_self ..)))
    obtain ⟨v, hvz⟩ := vl_some zl
    have zd : z ∉ done.map (·.1) := fun hm => by
      have nd := pm.nodup_iff.mpr hn
      rw [List.nodup_append] at nd
      exact nd.2.2 z hm z (pe.mem_iff.mp (List.mem_cons_self ..)) rfl
    have pt : putD (dZd done) (Sum.inr z) v = dZd (done ++ [(z, v)]) := by
      rw [putD_new (vl_none zd)]
      unfold dZd
      rw [List.map_append]
      rfl
    have ixm : mOp fIx (mVar 1) (mVar 4) [some (.obj b), some (.dic (dZd l)), some (.obj s.length), some (.obj (s.length + 1)), some (.v (.str z))] (s2 ++ [.lst (strsD ((a :: r).eraseIdx q.toNat)), .dic (dZd done)]) = some (.ok v (s2 ++ [.lst (strsD ((a :: r).eraseIdx q.toNat)), .dic (dZd done)])) := by
      have v1 : ∀ u, mVar 1 [some (.obj b), some (.dic (dZd l)), some (.obj s.length), some (.obj (s.length + 1)), some (.v (.str z))] u = some (.ok (.dic (dZd l)) u) := fun _ => rfl
      have v4 : ∀ u, mVar 4 [some (.obj b), some (.dic (dZd l)), some (.obj s.length), some (.obj (s.length + 1)), some (.v (.str z))] u = some (.ok (.v (.str z)) u) := fun _ => rfl
      have ix : ∀ u, fIx (.dic (dZd l)) (.v (.str z)) u = some (v, u) := fun u => fIx_dict rfl hvz
      simp only [mOp, v1, v4, bn, ix, lft]
    have set := put_cell (d := mVar 3) (k := mVar 4) (n := s.length + 1) ixm rfl rfl (g2 l2) (by have : (dZd done).length = done.length := List.length_map ..; omega)
    rw [pt, show (s2 ++ [Cell.lst (strsD ((a :: r).eraseIdx q.toNat)), .dic (dZd done)]).set (s.length + 1) (.dic (dZd (done ++ [(z, v)]))) = s2 ++ [Cell.lst (strsD ((a :: r).eraseIdx q.toNat)), .dic (dZd (done ++ [(z, v)]))] from by rw [← l2]; exact cset1] at set
    have as : mAsg (mPopAt (mVar 2) (mCons (mCall m__law_take_d4ae [] (mCons (mVar 0) (mCons (mCB fLen (mCons (mVar 2) mNil)) mNil))) mNil)) (mgName 4) [some (.obj b), some (.dic (dZd l)), some (.obj s.length), some (.obj (s.length + 1)), o4] (s1 ++ [.lst (strsD (a :: r)), .dic (dZd done)])
        = some (.nx [some (.obj b), some (.dic (dZd l)), some (.obj s.length), some (.obj (s.length + 1)), some (.v (.str z))] (s2 ++ [.lst (strsD ((a :: r).eraseIdx q.toNat)), .dic (dZd done)])) := by
      unfold mAsg
      rw [pop]
      rfl
    have bd : mSeq (mAsg (mPopAt (mVar 2) (mCons (mCall m__law_take_d4ae [] (mCons (mVar 0) (mCons (mCB fLen (mCons (mVar 2) mNil)) mNil))) mNil)) (mgName 4)) (mSetI (mVar 3) (mVar 4) (mOp fIx (mVar 1) (mVar 4))) [some (.obj b), some (.dic (dZd l)), some (.obj s.length), some (.obj (s.length + 1)), o4] (s1 ++ [.lst (strsD (a :: r)), .dic (dZd done)])
        = some (.nx [some (.obj b), some (.dic (dZd l)), some (.obj s.length), some (.obj (s.length + 1)), some (.v (.str z))] (s2 ++ [.lst (strsD ((a :: r).eraseIdx q.toNat)), .dic (dZd (done ++ [(z, v)]))])) := by
      unfold mSeq
      rw [as]
      exact set
    rw [bd]
    refine ⟨((a :: r).eraseIdx q.toNat).length, ?_, ⟨_, done ++ [(z, v)], s2, _, rfl, rfl, rfl, d2.up (by rw [List.length_append]; simp only [List.length_cons, List.length_nil]; omega), l2, ?_, ?_⟩⟩
    · have := pe.length_eq
      simp only [List.length_cons] at this ⊢
      omega
    · rw [List.map_append, List.append_assoc]
      exact (List.Perm.append_left _ (show ([z] ++ (a :: r).eraseIdx q.toNat).Perm (a :: r) from pe)).trans pm
    · intro p hp
      rcases List.mem_append.mp hp with hp | hp
      · exact hv p hp
      · rw [List.mem_singleton.mp hp]; exact hvz
theorem turned_any (hn : (l.map (·.1)).Nodup) (hle : l.length ≤ 60) (ha : Ak (l.map (·.1))) (hbd : ∀ p ∈ l, ∀ n, bdD n p.2 = true) (hB : Bag s b k) (hk : k ≤ 1000000) (wf : Wf s) :
    ∃ l' s', q__law_turned [.obj b, .dic (dZd l)] s = some (.ok (.dic (dZd l')) s') ∧ Drw s b (k + 60) s' ∧ Turn l l' := by
  have fl : fListC [.dic (dZd l)] s = some (.obj s.length, s ++ [.lst (strsD (l.map (·.1)))]) := by
    have : fList [.dic (dZd l)] s = some (.lst (strsD (l.map (·.1))), s) := by
      unfold fList
      have e : (dZd l).map (fun kv => D.v (kV kv.1)) = strsD (l.map (·.1)) := by
        unfold strsD dZd
        rw [List.map_map, List.map_map]
        rfl
      simp only [dvw, e]
      first | done | rfl
    unfold fListC
    rw [this]
  have p0 : T02_0 [some (.obj b), some (.dic (dZd l)), none, none, none] s = some (.nx [some (.obj b), some (.dic (dZd l)), some (.obj s.length), some (.obj (s.length + 1)), none] (s ++ [.lst (strsD (l.map (·.1))), .dic []])) := by
    have v1 : mVar 1 [some (.obj b), some (.dic (dZd l)), none, none, none] s = some (.ok (.dic (dZd l)) s) := rfl
    unfold T02_0
    simp [mPar, mCons, mDNewC, mNil, mCB, v1, fl, lft, bn, bnS]
  have t0 : Tn s b k s l (l.map (·.1)).length [some (.obj b), some (.dic (dZd l)), some (.obj s.length), some (.obj (s.length + 1)), none] (s ++ [.lst (strsD (l.map (·.1))), .dic []]) :=
    ⟨_, [], s, none, rfl, rfl, rfl, (Drw.refl hB).up (by simp), rfl, by simp, fun p hp => by cases hp⟩
  have lp : Wt (T02_1 [some (.obj b), some (.dic (dZd l)), some (.obj s.length), some (.obj (s.length + 1)), none] (s ++ [.lst (strsD (l.map (·.1))), .dic []])) {nx := fun e u => Tn s b k s l 0 e u} :=
    w_wh (fun m e u => Tn s b k s l m e u) (fun m e u h => turned_step hn hle ha hk h) 100000 _ _ _ (by rw [List.length_map]; omega) t0
  obtain ⟨e1, u1, q1, h1⟩ := Wt.next lp
  obtain ⟨left, done, s1, o4, hm, rfl, rfl, d1, l1, pm, hv⟩ := h1.p
  have : left = [] := List.length_eq_zero_iff.mp hm.symm
  subst this
  rw [List.append_nil] at pm
  have tn := Turn.mk' hn pm hv
  refine ⟨done, s1, ?_, d1.up (by have := tn.len; omega), tn⟩
  refine gc_wf (tl := [.lst [], .free]) (fnM_eq rfl ?_) d1.len (d1.fl wf) (bd_dS fun p hp => hbd p (tn.mem hn hp) _)
  show T02_B [some (.obj b), some (.dic (dZd l)), none, none, none] s = _
  unfold T02_B
  unfold mSeq
  rw [p0]
  dsimp only
  rw [q1]
  dsimp only
  have fz : frz (s1 ++ [.lst (strsD []), .dic (dZd done)]) (.obj (s.length + 1)) = some (.dic (dZd done), s1 ++ [.lst (strsD []), .free]) := by
    rw [← l1]
    simp only [frz, cell1, restD, Option.map_some, cset1]
  have v3 : mVar 3 [some (.obj b), some (.dic (dZd l)), some (.obj s.length), some (.obj (s.length + 1)), o4] (s1 ++ [.lst (strsD []), .dic (dZd done)]) = some (.ok (.obj (s.length + 1)) (s1 ++ [.lst (strsD []), .dic (dZd done)])) := rfl
  unfold T02_2
  simp only [mRet, mRest, v3, bn, fz, lft, bnS]
  rfl
end
end Nm
set_option Elab.async false
set_option linter.all false
set_option maxRecDepth 100000
set_option maxHeartbeats 8000000
namespace Nm
open PySem PySem.Spec PyProof.Rows L2 Evl
section
variable {s t u st s1 : GS} {z : Str} {x y v : D} {l ms l' : List (Str × D)} {b : Nat} {k : Int}
theorem put_dZd : dZd (putD l z v) = putD (dZd l) (Sum.inr z) v := by
  have e : ((dZd l).any fun kv => decide (kv.1 = (Sum.inr z : Key))) = l.any fun kv => decide (kv.1 = z) := by
    unfold dZd
    rw [List.any_map]
    congr 1
    funext p
    show decide ((Sum.inr p.1 : Key) = Sum.inr z) = decide (p.1 = z)
    by_cases h : p.1 = z
    · rw [decide_eq_true h, decide_eq_true (by rw [h])]
    · rw [decide_eq_false h, decide_eq_false fun h' => h (Sum.inr.inj h')]
  unfold putD
  rw [e]
  split
  · unfold dZd
    rw [List.map_map, List.map_map]
    refine List.map_congr_left fun p _ => ?_
    show ((Sum.inr (if p.1 = z then (p.1, v) else p).1 : Key), (if p.1 = z then (p.1, v) else p).2) = if (Sum.inr p.1 : Key) = Sum.inr z then ((Sum.inr p.1 : Key), v) else (Sum.inr p.1, p.2)
    by_cases h : p.1 = z
    · rw [if_pos h, if_pos (by rw [h])]
    · rw [if_neg h, if_neg fun h' => h (Sum.inr.inj h')]
  · unfold dZd
    rw [List.map_append]
    rfl
theorem put_keys : (putD l z v).map (·.1) = if z ∈ l.map (·.1) then l.map (·.1) else l.map (·.1) ++ [z] := by
  unfold putD
  by_cases h : z ∈ l.map (·.1)
  · obtain ⟨p, hp, e⟩ := List.mem_map.mp h
    rw [if_pos (List.any_eq_true.mpr ⟨p, hp, decide_eq_true e⟩), if_pos h, List.map_map]
    refine List.map_congr_left fun p _ => ?_
    show (if p.1 = z then (p.1, v) else p).1 = p.1
    split <;> rfl
  · rw [if_neg (fun ha => by
      obtain ⟨p, hp, e⟩ := List.any_eq_true.mp ha
      exact h (List.mem_map.mpr ⟨p, hp, of_decide_eq_true e⟩)), if_neg h, List.map_append]
    rfl
theorem put_mem {p : Str × D} (h : p ∈ putD l z v) : p ∈ l ∨ p = (z, v) := by
  unfold putD at h
  split at h
  · obtain ⟨q, hq, e⟩ := List.mem_map.mp h
    by_cases k : q.1 = z
    · rw [if_pos k] at e; rw [← e, k]; exact Or.inr rfl
    · rw [if_neg k] at e; rw [← e]; exact Or.inl hq
  · rcases List.mem_append.mp h with h | h
    · exact Or.inl h
    · exact Or.inr (List.mem_singleton.mp h)
theorem put_nd (h : (l.map (·.1)).Nodup) : ((putD l z v).map (·.1)).Nodup := by
  rw [put_keys]
  split
  · exact h
  · rename_i k
    rw [List.nodup_append]
    exact ⟨h, by simp, fun a ha b hb e => k (by rw [List.mem_singleton] at hb; rw [← hb, ← e]; exact ha)⟩
theorem put_len : (putD l z v).length ≤ l.length + 1 := by
  have : ((putD l z v).map (·.1)).length ≤ (l.map (·.1)).length + 1 := by
    rw [put_keys]
    split
    · omega
    · rw [List.length_append]; simp
  rwa [List.length_map, List.length_map] at this
theorem FdOk.put (fo : FdOk l) (hl : l.length ≤ 50) (hz : z.length ≤ 100 ∧ ∀ c ∈ z.cps.toList, c < 128) (hv : VF v) : FdOk (putD l z v) :=
  ⟨put_nd fo.nd, by have := put_len (l := l) (z := z) (v := v); omega, fun p hp => (put_mem hp).elim (fo.ks p) fun e => by rw [e]; exact hz, fun p hp => (put_mem hp).elim (fo.vs p) fun e => by rw [e]; exact hv⟩
theorem MkOk.put (fo : MkOk l) (hl : l.length ≤ 50) (hz : z.length ≤ 100 ∧ ∀ c ∈ z.cps.toList, c < 128) (hv : v ∈ otM) : MkOk (putD l z v) :=
  ⟨put_nd fo.nd, by have := put_len (l := l) (z := z) (v := v); omega, fun p hp => (put_mem hp).elim (fo.ks p) fun e => by rw [e]; exact hz, fun p hp => (put_mem hp).elim (fo.vs p) fun e => by rw [e]; exact hv⟩
def K12 : List Str := ["a", "A", "", "ab", " ", "/", "!", "Q", "'", "1", "z", "\n"]
def W14 : List D := [.v (.str ""), .v (.str "abcd"), .v (.str "a b"), .v (.str "a/"), .v .non, .v (.int 1), .lst [.v (.str "a")], .tup [.v (.str "a")], .v (.str "A"), .v (.str "aQ"), .v (.str "q"), .v (.str "q'"), .v (.str "qrs"), .v (.bl true)]
theorem K12_ok : ∀ z ∈ K12, z.length ≤ 100 ∧ ∀ c ∈ z.cps.toList, c < 128 := by decide +kernel
def txt (z : Str) : Bool := decide (z.length ≤ 100) && z.cps.toList.all fun c => decide (c < 128)
theorem VF_txt (h : txt z = true) : VF (.v (.str z)) := by
  unfold txt at h
  obtain ⟨h1, h2⟩ := Bool.and_eq_true_iff.mp h
  exact Or.inl ⟨z.cps.toList, by rw [stL_of], of_decide_eq_true h1, fun c hc => of_decide_eq_true (List.all_eq_true.mp h2 c hc)⟩
theorem W14_ok : ∀ v ∈ W14, VF v := by
  intro v h
  unfold W14 at h
  simp only [List.mem_cons, List.not_mem_nil, or_false] at h
  have o : ∀ v ∈ otF, VF v := fun v h => Or.inr h
  unfold otF at o
  simp only [List.mem_cons, List.not_mem_nil, or_false] at o
  rcases h with rfl | rfl | rfl | rfl | rfl | rfl | rfl | rfl | rfl | rfl | rfl | rfl | rfl | rfl
  · exact VF_txt (by decide +kernel)
  · exact VF_txt (by decide +kernel)
  · exact VF_txt (by decide +kernel)
  · exact VF_txt (by decide +kernel)
  · exact o _ (by simp)
  · exact o _ (by simp)
  · exact o _ (by simp)
  · exact o _ (by simp)
  · exact VF_txt (by decide +kernel)
  · exact VF_txt (by decide +kernel)
  · exact VF_txt (by decide +kernel)
  · exact VF_txt (by decide +kernel)
  · exact VF_txt (by decide +kernel)
  · exact o _ (by simp)
theorem fIx_any {ds : List D} {r : Int} (h0 : 0 ≤ r) (h1 : r < (ds.length : Nat)) : ∃ v ∈ ds, ∀ u, fIx (.lst ds) (.v (.int r)) u = some (v, u) := by
  have hr : r.toNat < ds.length := by omega
  refine ⟨ds[r.toNat]'hr, List.getElem_mem hr, fun u => ?_⟩
  show (atI ds r).map _ = _
  have : atI ds r = some (ds[r.toNat]'hr) := by
    unfold atI ixN
    rw [if_pos (by omega), if_pos (by omega)]
    exact List.getElem?_eq_getElem hr
  rw [this]
  rfl
theorem bent_ok (fo : FdOk l) (mo : MkOk ms) (hl : l.length ≤ 50) (hm : ms.length ≤ 50) (hB : Drw st b k s1) (hk : k ≤ 1000000) (hs : s1.length = st.length) :
    ∃ l' ms' s2, q__law_bent [.obj b, .obj st.length, .obj (st.length + 1)] (s1 ++ [.dic (dZd l), .dic (dZd ms)]) = some (.ok (.v .non) (s2 ++ [.dic (dZd l'), .dic (dZd ms')])) ∧ FdOk l' ∧ MkOk ms' ∧ l'.length ≤ l.length + 1 ∧ ms'.length ≤ ms.length + 1 ∧ Drw st b (k + 3) s2 := by
  obtain ⟨r1, s2, e1, r10, r11, d1⟩ := drawT [.dic (dZd l), .dic (dZd ms)] hB (n := 6) (by omega) (by omega) (by omega)
  obtain ⟨r2, s3, e2, r20, r21, d2⟩ := drawT [.dic (dZd l), .dic (dZd ms)] d1 (n := 12) (by omega) (by omega) (by omega)
  have hl3 : s3.length = st.length := d2.len
  have c1 : mCall m__law_take_d4ae [] (mCons (mVar 0) (mCons (mC (.int 6)) mNil)) [some (.obj b), some (.obj st.length), some (.obj (st.length + 1)), none, none, none] (s1 ++ [.dic (dZd l), .dic (dZd ms)]) = _ := mtake_eq (ea := mVar 0) (eb := mC (.int 6)) rfl rfl e1
  have c2 : mCall m__law_take_d4ae [] (mCons (mVar 0) (mCons (mC (.int 12)) mNil)) [some (.obj b), some (.obj st.length), some (.obj (st.length + 1)), some (.v (.int r1)), none, none] (s2 ++ [.dic (dZd l), .dic (dZd ms)]) = _ := mtake_eq (ea := mVar 0) (eb := mC (.int 12)) rfl rfl e2
  obtain ⟨zd, hz, ix⟩ := fIx_any (ds := K12.map fun z => .v (.str z)) (r := r2) r20 (by show r2 < ((12 : Nat) : Int); omega)
  obtain ⟨z, hzm, rfl⟩ := List.mem_map.mp hz
  have kz := K12_ok z hzm
  have g1 : ∀ {s2 : GS} {c c' : Cell}, s2.length = st.length → (s2 ++ [c, c'])[st.length]? = some c := fun e => by rw [← e]; exact cell0
  have g2 : ∀ {s2 : GS} {c c' : Cell}, s2.length = st.length → (s2 ++ [c, c'])[st.length + 1]? = some c' := fun e => by rw [← e]; exact cell1
  have p0 : B02_0 [some (.obj b), some (.obj st.length), some (.obj (st.length + 1)), none, none, none] (s1 ++ [.dic (dZd l), .dic (dZd ms)]) = some (.nx [some (.obj b), some (.obj st.length), some (.obj (st.length + 1)), some (.v (.int r1)), none, none] (s2 ++ [.dic (dZd l), .dic (dZd ms)])) := by
    unfold B02_0 mAsg
    rw [c1]
    rfl
  have p1 : B02_1 [some (.obj b), some (.obj st.length), some (.obj (st.length + 1)), some (.v (.int r1)), none, none] (s2 ++ [.dic (dZd l), .dic (dZd ms)]) = some (.nx [some (.obj b), some (.obj st.length), some (.obj (st.length + 1)), some (.v (.int r1)), some (.v (.str z)), none] (s3 ++ [.dic (dZd l), .dic (dZd ms)])) := by
    have ll : (mLst (mCons (mC (.str "a")) (mCons (mC (.str "A")) (mCons (mC (.str "")) (mCons (mC (.str "ab")) (mCons (mC (.str " ")) (mCons (mC (.str "/")) (mCons (mC (.str "!")) (mCons (mC (.str "Q")) (mCons (mC (.str "'")) (mCons (mC (.str "1")) (mCons (mC (.str "z")) (mCons (mC (.str "\n")) mNil))))))))))))) [some (.obj b), some (.obj st.length), some (.obj (st.length + 1)), some (.v (.int r1)), none, none] (s2 ++ [.dic (dZd l), .dic (dZd ms)]) = some (.ok (.lst (K12.map fun z => .v (.str z))) (s2 ++ [.dic (dZd l), .dic (dZd ms)])) := rfl
    unfold B02_1 mAsg mOp
    rw [ll]
    simp only [bn]
    rw [c2]
    simp only [ix, lft, bnS]
    rfl
  have bd : ∀ {B : MS} {E : EnvD} {S : GS}, B02_2 [some (.obj b), some (.obj st.length), some (.obj (st.length + 1)), some (.v (.int r1)), some (.v (.str z)), none] (s3 ++ [.dic (dZd l), .dic (dZd ms)]) = some (.nx E S) → S.length = s1.length + 2 → q__law_bent [.obj b, .obj st.length, .obj (st.length + 1)] (s1 ++ [.dic (dZd l), .dic (dZd ms)]) = some (.ok (.v .non) S) := by
    intro B E S h hS
    refine gc_nil ?_ (by rw [hS, List.length_append]; rfl)
    show (match bq__law_bent [some (.obj b), some (.obj st.length), some (.obj (st.length + 1)), none, none, none] (s1 ++ [.dic (dZd l), .dic (dZd ms)]) with | some (.rt d s) => some (Re.ok d s) | some (.nx _ s) => some (.ok (.v .non) s) | some (.ex c fs _ s) => some (.ex c fs s) | _ => none) = _
    rw [B02_all]
    unfold B02_B mSeq
    rw [p0]
    dsimp only
    rw [p1]
    dsimp only
    rw [h]
  have lt : ∀ u, mTest (mOp fLt (mVar 3) (mC (.int 3))) [some (.obj b), some (.obj st.length), some (.obj (st.length + 1)), some (.v (.int r1)), some (.v (.str z)), none] u = some (.ok (decide (r1 < 3)) u) := fun u => rfl
  by_cases h : r1 < 3
  · obtain ⟨r3, s4, e3, r30, r31, d3⟩ := drawT [.dic (dZd l), .dic (dZd ms)] d2 (n := 14) (by omega) (by omega) (by omega)
    obtain ⟨v, hv, ix3⟩ := fIx_any (ds := W14) (r := r3) r30 (by show r3 < ((14 : Nat) : Int); omega)
    have hl4 : s4.length = st.length := d3.len
    have c3 : mCall m__law_take_d4ae [] (mCons (mVar 0) (mCons (mC (.int 14)) mNil)) [some (.obj b), some (.obj st.length), some (.obj (st.length + 1)), some (.v (.int r1)), some (.v (.str z)), some (.lst W14)] (s3 ++ [.dic (dZd l), .dic (dZd ms)]) = _ := mtake_eq (ea := mVar 0) (eb := mC (.int 14)) rfl rfl e3
    refine ⟨putD l z v, ms, s4, ?_, fo.put hl kz (W14_ok v hv), mo, put_len, by omega, d3.up (by omega)⟩
    refine bd (B := mNext) (E := [some (.obj b), some (.obj st.length), some (.obj (st.length + 1)), some (.v (.int r1)), some (.v (.str z)), some (.lst W14)]) ?_ (by rw [List.length_append, hl4, ← hs]; rfl)
    unfold B02_2
    unfold mIfS
    rw [lt]
    simp only [bnS, decide_eq_true h, if_true]
    have ll : ∀ u, (mAsg (mLst (mCons (mC (.str "")) (mCons (mC (.str "abcd")) (mCons (mC (.str "a b")) (mCons (mC (.str "a/")) (mCons (mC .non) (mCons (mC (.int 1)) (mCons (mLst (mCons (mC (.str "a")) mNil)) (mCons (mTup (mCons (mC (.str "a")) mNil)) (mCons (mC (.str "A")) (mCons (mC (.str "aQ")) (mCons (mC (.str "q")) (mCons (mC (.str "q'")) (mCons (mC (.str "qrs")) (mCons (mC (.bl true)) mNil))))))))))))))) (mgName 5)) [some (.obj b), some (.obj st.length), some (.obj (st.length + 1)), some (.v (.int r1)), some (.v (.str z)), none] u = some (.nx [some (.obj b), some (.obj st.length), some (.obj (st.length + 1)), some (.v (.int r1)), some (.v (.str z)), some (.lst W14)] u) := fun u => rfl
    have vv : mOp fIx (mVar 5) (mCall m__law_take_d4ae [] (mCons (mVar 0) (mCons (mC (.int 14)) mNil))) [some (.obj b), some (.obj st.length), some (.obj (st.length + 1)), some (.v (.int r1)), some (.v (.str z)), some (.lst W14)] (s3 ++ [.dic (dZd l), .dic (dZd ms)]) = some (.ok v (s4 ++ [.dic (dZd l), .dic (dZd ms)])) := by
      have v5 : mVar 5 [some (.obj b), some (.obj st.length), some (.obj (st.length + 1)), some (.v (.int r1)), some (.v (.str z)), some (.lst W14)] (s3 ++ [.dic (dZd l), .dic (dZd ms)]) = some (.ok (.lst W14) (s3 ++ [.dic (dZd l), .dic (dZd ms)])) := rfl
      unfold mOp
      rw [v5]
      simp only [bn]
      rw [c3]
      simp only [ix3, lft]
    unfold mSeq
    rw [ll]
    dsimp only
    rw [put_cell (n := st.length) vv rfl rfl (g1 hl4) (by have : (dZd l).length = l.length := List.length_map ..; omega), put_dZd]
    rw [show (s4 ++ [Cell.dic (dZd l), .dic (dZd ms)]).set st.length (.dic (putD (dZd l) (Sum.inr z) v)) = s4 ++ [.dic (putD (dZd l) (Sum.inr z) v), .dic (dZd ms)] from by rw [← hl4]; exact cset0]
  · obtain ⟨r3, s4, e3, r30, r31, d3⟩ := drawT [.dic (dZd l), .dic (dZd ms)] d2 (n := 12) (by omega) (by omega) (by omega)
    obtain ⟨v, hv, ix3⟩ := fIx_any (ds := otM) (r := r3) r30 (by show r3 < ((12 : Nat) : Int); omega)
    have hl4 : s4.length = st.length := d3.len
    have c3 : mCall m__law_take_d4ae [] (mCons (mVar 0) (mCons (mC (.int 12)) mNil)) [some (.obj b), some (.obj st.length), some (.obj (st.length + 1)), some (.v (.int r1)), some (.v (.str z)), none] (s3 ++ [.dic (dZd l), .dic (dZd ms)]) = _ := mtake_eq (ea := mVar 0) (eb := mC (.int 12)) rfl rfl e3
    refine ⟨l, putD ms z v, s4, ?_, fo, mo.put hm kz hv, by omega, put_len, d3.up (by omega)⟩
    refine bd (B := mNext) (E := [some (.obj b), some (.obj st.length), some (.obj (st.length + 1)), some (.v (.int r1)), some (.v (.str z)), none]) ?_ (by rw [List.length_append, hl4, ← hs]; rfl)
    unfold B02_2
    unfold mIfS
    rw [lt]
    simp only [bnS, decide_eq_false h, Bool.false_eq_true, if_false]
    have vv : ∀ {A : ME}, A [some (.obj b), some (.obj st.length), some (.obj (st.length + 1)), some (.v (.int r1)), some (.v (.str z)), none] (s3 ++ [.dic (dZd l), .dic (dZd ms)]) = some (.ok (.lst otM) (s3 ++ [.dic (dZd l), .dic (dZd ms)])) → mOp fIx A (mCall m__law_take_d4ae [] (mCons (mVar 0) (mCons (mC (.int 12)) mNil))) [some (.obj b), some (.obj st.length), some (.obj (st.length + 1)), some (.v (.int r1)), some (.v (.str z)), none] (s3 ++ [.dic (dZd l), .dic (dZd ms)]) = some (.ok v (s4 ++ [.dic (dZd l), .dic (dZd ms)])) := by
      intro A hA
      unfold mOp
      rw [hA]
      simp only [bn]
      rw [c3]
      simp only [ix3, lft]
    rw [put_cell (n := st.length + 1) (vv (by kernel_rfl)) rfl rfl (g2 hl4) (by have : (dZd ms).length = ms.length := List.length_map ..; omega), put_dZd]
    rw [show (s4 ++ [Cell.dic (dZd l), .dic (dZd ms)]).set (st.length + 1) (.dic (putD (dZd ms) (Sum.inr z) v)) = s4 ++ [.dic (dZd l), .dic (putD (dZd ms) (Sum.inr z) v)] from by rw [← hl4]; exact cset1]
def lF (fs : Fds) : List (Str × D) := fs.map fun p => (sgS p.1, .v (.str (stL p.2)))
def lM (ms : Mks) : List (Str × D) := ms.map fun p => (sgS p.1, .v (.int p.2))
theorem dZd_F (fs : Fds) : dZd (lF fs) = dF fs := by
  unfold dZd lF dF
  rw [List.map_map]
  rfl
theorem dZd_M (fs : Mks) : dZd (lM fs) = dM fs := by
  unfold dZd lM dM
  rw [List.map_map]
  rfl
theorem nd_sg {α : Type} {l : List (Nat × α)} {g : Nat × α → D} (h : (l.map (·.1)).Nodup) : ((l.map fun p => (sgS p.1, g p)).map (·.1)).Nodup := by
  rw [List.map_map]
  refine List.pairwise_map.mpr ?_
  exact (List.pairwise_map.mp h).imp fun {a b} hn e => hn (sgS_inj e)
theorem asc7 : (∀ c ∈ FK, c < 128) ∧ (∀ c ∈ FWS.cps.toList, c < 128) ∧ ∀ c ∈ MKS.cps.toList, c < 128 := by decide +kernel
theorem lF_ok {fs : Fds} (h : FsOk fs 7) : FdOk (lF fs) ∧ (lF fs).length ≤ 7 := by
  have h7 := rule_ok0 h
  have e : (lF fs).length = fs.length := List.length_map ..
  refine ⟨⟨nd_sg h.nd, by omega, fun q hq => ?_, fun q hq => ?_⟩, by omega⟩
  · obtain ⟨p, hp, rfl⟩ := List.mem_map.mp hq
    refine ⟨by show 1 ≤ 100; decide, fun c hc => ?_⟩
    have hc : c ∈ [p.1] := hc
    rw [List.mem_singleton.mp hc]
    exact asc7.1 _ (List.mem_of_mem_take (h.ky p hp))
  · obtain ⟨p, hp, rfl⟩ := List.mem_map.mp hq
    obtain ⟨w1, w2, w3⟩ := h.wd p hp
    exact Or.inl ⟨p.2, rfl, by omega, fun c hc => asc7.2.1 c (w3 c hc)⟩
theorem lM_ok {ms : Mks} (h : MsOk ms 4) : MkOk (lM ms) ∧ (lM ms).length ≤ 4 := by
  have h7 := rule_ok1 h
  have e : (lM ms).length = ms.length := List.length_map ..
  refine ⟨⟨nd_sg h.nd, by omega, fun q hq => ?_, fun q hq => ?_⟩, by omega⟩
  · obtain ⟨p, hp, rfl⟩ := List.mem_map.mp hq
    refine ⟨by show 1 ≤ 100; decide, fun c hc => ?_⟩
    have hc : c ∈ [p.1] := hc
    rw [List.mem_singleton.mp hc]
    exact asc7.2.2 _ (List.mem_of_mem_take (h.ky p hp))
  · obtain ⟨p, hp, rfl⟩ := List.mem_map.mp hq
    have := h.cl p hp
    show D.v (.int p.2) ∈ otM
    unfold otM
    rcases this with e | e | e <;> rw [e] <;> simp
theorem rule_q (hB : Bag s b k) (hk : k ≤ 900000) :
    ∃ l ms s', q__law_rule [.obj b] s = some (.ok (.tup [.obj s.length, .obj (s.length + 1)]) (s' ++ [.dic (dZd l), .dic (dZd ms)])) ∧ FdOk l ∧ l.length ≤ 7 ∧ MkOk ms ∧ ms.length ≤ 4 ∧ Drw s b (k + 60) s' := by
  have hD : Drw s b k s := Drw.refl hB
  have lp1 := mLoop_n (g := mgName 3) (b := R02_1_B)
    (fun i e t => i ≤ 7 → ∃ o3 o4 fs s', e = [some (.obj b), some (.obj s.length), some (.obj (s.length + 1)), o3, o4] ∧ t = s' ++ [.dic (dF fs), .dic []] ∧ Drw s b (k + 5 * (i : Nat)) s' ∧ FsOk fs i)
    (sgsD FKS.cps.toList) 0 [some (.obj b), some (.obj s.length), some (.obj (s.length + 1)), none, none] (s ++ [.dic [], .dic []]) (fun _ => ⟨none, none, [], s, rfl, rfl, (Drw.refl hD.bag).up (by omega), ⟨List.nodup_nil, fun _ h => (nomatch h), fun _ h => (nomatch h)⟩⟩) fun i d e t hi hp => by
      obtain ⟨c, hc, rfl⟩ := sgsD_get hi
      have hi7 : i < 7 := by
        have := (List.getElem?_eq_some_iff.mp hc).1
        rw [show FKS.cps.toList.length = 7 from fk_facts.2.2.2.1] at this
        exact this
      obtain ⟨o3, o4, fs, s', rfl, rfl, d1, f1⟩ := hp (by omega)
      rw [Nat.zero_add] at d1 f1
      obtain ⟨fs', o4', s2, k2, g1, g2, g3, g4⟩ := rule_fold (o4 := o4) (t1 := .dic []) d1 (by omega) f1 hc
      refine ⟨_, _, _, _, rfl, .inl g1, fun _ => ⟨_, _, fs', s2, rfl, rfl, g2.up (by omega), by rw [Nat.zero_add]; exact g4⟩⟩
  obtain ⟨e1, t1, l1, h1⟩ := lp1
  obtain ⟨o3, o4, fs, s1, rfl, rfl, d1, f1⟩ := h1 (by decide +kernel)
  rw [show 0 + (sgsD FKS.cps.toList).length = 7 from by decide +kernel] at d1 f1
  have lp2 := mLoop_n (g := mgName 3) (b := R02_2_B)
    (fun i e t => i ≤ 4 → ∃ o3 ms s', e = [some (.obj b), some (.obj s.length), some (.obj (s.length + 1)), o3, o4] ∧ t = s' ++ [.dic (dF fs), .dic (dM ms)] ∧ Drw s b (k + 35 + 2 * (i : Nat)) s' ∧ MsOk ms i)
    (sgsD MKS.cps.toList) 0 [some (.obj b), some (.obj s.length), some (.obj (s.length + 1)), o3, o4] (s1 ++ [.dic (dF fs), .dic []]) (fun _ => ⟨o3, [], s1, rfl, rfl, d1.up (by omega), ⟨List.nodup_nil, fun _ h => (nomatch h), fun _ h => (nomatch h)⟩⟩) fun i d e t hi hp => by
      obtain ⟨c, hc, rfl⟩ := sgsD_get hi
      have hi7 : i < 4 := by
        have := (List.getElem?_eq_some_iff.mp hc).1
        rw [show MKS.cps.toList.length = 4 from fk_facts.2.2.2.2.1] at this
        exact this
      obtain ⟨o3, ms, s', rfl, rfl, d1, f1⟩ := hp (by omega)
      rw [Nat.zero_add] at d1 f1
      obtain ⟨ms', s2, k2, g1, g2, g3, g4⟩ := mark_turn (o4 := o4) (t0 := .dic (dF fs)) d1 (by omega) f1 hc
      refine ⟨_, _, _, _, rfl, .inl g1, fun _ => ⟨_, ms', s2, rfl, rfl, g2.up (by omega), by rw [Nat.zero_add]; exact g4⟩⟩
  obtain ⟨e2, t2, l2, h2⟩ := lp2
  obtain ⟨o3', ms, s2, rfl, rfl, d2, m2⟩ := h2 (by decide +kernel)
  rw [show 0 + (sgsD MKS.cps.toList).length = 4 from by decide +kernel] at d2 m2
  obtain ⟨a1, a2⟩ := lF_ok f1
  obtain ⟨a3, a4⟩ := lM_ok m2
  refine ⟨lF fs, lM ms, s2, ?_, a1, a2, a3, a4, d2.up (by omega)⟩
  rw [dZd_F, dZd_M]
  have ee : mFn 1 5 bq__law_rule [.obj b] s = some (.ok (.tup [.obj s.length, .obj (s.length + 1)]) (s2 ++ [.dic (dF fs), .dic (dM ms)])) := by
    refine fnM_eq rfl ?_
    show bq__law_rule [some (.obj b), none, none, none, none] s = _
    have p0 : R02_0 [some (.obj b), none, none, none, none] s = some (.nx [some (.obj b), some (.obj s.length), some (.obj (s.length + 1)), none, none] (s ++ [.dic [], .dic []])) := by
      unfold R02_0
      simp [mPar, mCons, mDNewC, mNil, bn, bnS]
    rw [R02_all]
    unfold R02_B R02_1 R02_2 R02_3
    simp only [mSeq, p0, mFor_eq mItems_str l1, mFor_eq mItems_str l2]
    simp only [mRet, mTup, mCons, mNil, mVar, bn, bnS, List.getElem?_cons_succ, List.getElem?_cons_zero, List.length_cons, List.length_nil]
    first | done | rfl
  show gc s.length (mFn 1 5 bq__law_rule [.obj b] s) = _
  rw [ee]
  unfold gc
  dsimp only
  have nb : bdD s.length (.tup [.obj s.length, .obj (s.length + 1)]) = false := by
    show (decide (s.length < s.length) && _) = false
    rw [decide_eq_false (Nat.lt_irrefl _)]
    rfl
  rw [nb]
  rfl
end
end Nm
set_option Elab.async false
set_option linter.all false
set_option maxRecDepth 100000
set_option maxHeartbeats 8000000
namespace Nm
open PySem PySem.Spec PyProof.Rows L2 Evl
section
variable {s t u st s1 : GS} {z : Str} {x y v : D} {l ms l' : List (Str × D)} {m : Nat} {k : Int} {ns : List Int}
theorem shR_a {z : Str} (h1 : z.length ≤ 100) (h : ∀ c ∈ z.cps.toList, c < 128) : ShR (.v (.str z)) 100 0 := (shR_str fun c hc => by have := h c hc; omega).up h1 (Nat.le_refl _)
theorem shR_VF (h : VF v) : ShR v 200 5 := by
  rcases h with ⟨w, rfl, h1, h2⟩ | h
  · exact (shR_st fun c hc => by have := h2 c hc; omega).up (by omega) (by omega)
  · unfold otF at h
    simp only [List.mem_cons, List.not_mem_nil, or_false] at h
    have sa : ShR (.v (.str "a")) 1 0 := shR_str (z := "a") (by decide +kernel)
    rcases h with rfl | rfl | rfl | rfl | rfl
    · exact shR_non.up (by omega) (by omega)
    · exact (shR_int (by omega) (by omega)).up (by omega) (by omega)
    · exact (ShRs.cons sa ShRs.nil).lst.up (by omega) (by omega)
    · exact (ShRs.cons sa ShRs.nil).tup.up (by omega) (by omega)
    · exact shR_bl.up (by omega) (by omega)
theorem shR_otM (h : v ∈ otM) : ShR v 200 5 := by
  unfold otM at h
  simp only [List.mem_cons, List.not_mem_nil, or_false] at h
  have si : ShR (.v (.int 1)) 0 0 := shR_int (by omega) (by omega)
  rcases h with rfl | rfl | rfl | rfl | rfl | rfl | rfl | rfl | rfl | rfl | rfl | rfl
  · exact (shR_int (by omega) (by omega)).up (by omega) (by omega)
  · exact (shR_int (by omega) (by omega)).up (by omega) (by omega)
  · exact shR_bl.up (by omega) (by omega)
  · exact (shR_str (z := "1") (by decide +kernel)).up (by show 1 ≤ 200; decide) (by omega)
  · exact shR_non.up (by omega) (by omega)
  · exact (shR_int (by omega) (by omega)).up (by omega) (by omega)
  · exact (shR_int (by omega) (by omega)).up (by omega) (by omega)
  · exact (shR_int (by omega) (by omega)).up (by omega) (by omega)
  · exact (ShRs.cons si ShRs.nil).lst.up (by omega) (by omega)
  · exact (ShRs.cons si ShRs.nil).tup.up (by omega) (by omega)
  · exact (shR_int (by omega) (by omega)).up (by omega) (by omega)
  · exact ⟨_, rfl, by decide +kernel, by decide +kernel, Nat.zero_le _, by simp [PyData.depth]⟩
theorem shR_dZd (hk : ∀ p ∈ l, p.1.length ≤ 100 ∧ ∀ c ∈ p.1.cps.toList, c < 128) (hv : ∀ p ∈ l, ShR p.2 200 5) (hl : l.length ≤ 60) : ShR (.dic (dZd l)) 20000 6 := by
  have := shR_dic (ks := dZd l) (m := 100) (n := 200) (k := 5) fun p hp => by
    obtain ⟨q, hq, rfl⟩ := List.mem_map.mp hp
    exact ⟨q.1, rfl, fun c hc => by have := (hk q hq).2 c hc; omega, (hk q hq).1, hv q hq⟩
  have e : (dZd l).length = l.length := List.length_map ..
  exact this.up (by rw [e]; omega) (Nat.le_refl _)
theorem show_two (fo : FdOk l) (mo : MkOk ms) : ∃ z, ∀ s : GS, fReprX [.lst [.dic (dZd l), .dic (dZd ms)]] s = some (.v (.str z), s) := by
  have a := shR_dZd fo.ks (fun p hp => shR_VF (fo.vs p hp)) fo.le
  have b := shR_dZd mo.ks (fun p hp => shR_otM (mo.vs p hp)) mo.le
  exact reprX_ok ((ShRs.cons a (ShRs.cons b ShRs.nil)).lst.up (by omega) (by omega))
theorem badF_key {p : Kd × Str} (h : badFz l z = some p) : p.2 = z := by
  unfold badFz at h
  split at h
  · split at h
    · split at h
      · cases h
      · cases h; rfl
    · cases h
  · cases h; rfl
theorem badM_key {p : Kd × Str} (h : badMz l ms z = some p) : p.2 = z := by
  unfold badMz at h
  split at h
  · split at h
    · split at h
      · cases h
      · cases h; rfl
    · cases h
  · cases h; rfl
theorem shR_nm (a : Kd) : ShR (.v (.str a.nm)) 100 0 := by
  cases a
  · exact shR_a (by decide +kernel) (by decide +kernel)
  · exact shR_a (by decide +kernel) (by decide +kernel)
  · exact shR_a (by decide +kernel) (by decide +kernel)
theorem shR_due (fo : FdOk l) (mo : MkOk ms) : ShR (dueD l ms) 300 5 := by
  unfold dueD
  cases hf : dueF l with
  | some p =>
    obtain ⟨a, ha, e⟩ := List.exists_of_findSome?_eq_some hf
    have kz := fo.key (mem_srt.mp ha)
    rw [← badF_key e] at kz
    exact (shR_pair (shR_nm _) (shR_a kz.1 kz.2)).up (by omega) (by omega)
  | none =>
    dsimp only
    cases hm : dueM l ms with
    | some p =>
      obtain ⟨a, ha, e⟩ := List.exists_of_findSome?_eq_some hm
      have kz := mo.key (mem_srt.mp ha)
      rw [← badM_key e] at kz
      exact (shR_pair (shR_nm _) (shR_a kz.1 kz.2)).up (by omega) (by omega)
    | none =>
      dsimp only
      have sm : ShR (.v (.str "many")) 100 0 := shR_a (by decide +kernel) (by decide +kernel)
      split
      · exact (shR_pair sm (shR_int (i := 40) (by omega) (by omega))).up (by omega) (by omega)
      · split
        · exact (shR_pair sm (shR_int (i := 8) (by omega) (by omega))).up (by omega) (by omega)
        · exact ShRs.nil.tup.up (by omega) (by omega)
theorem show_due (fo : FdOk l) (mo : MkOk ms) : ∃ z, ∀ s : GS, fReprX [dueD l ms] s = some (.v (.str z), s) := reprX_ok ((shR_due fo mo).up (by omega) (by omega))
theorem due_nx : ∀ c fs, dueD l ms ≠ .exn c fs := by
  intro c fs e
  unfold dueD at e
  split at e
  · cases e
  · split at e
    · cases e
    · split at e
      · cases e
      · split at e <;> cases e
theorem FdOk.ak (fo : FdOk l) : Ak (l.map (·.1)) := fun z hz => (fo.key hz).2
theorem MkOk.ak (fo : MkOk l) : Ak (l.map (·.1)) := fun z hz => (fo.key hz).2
theorem w_eqS {q : MS} {r : MS} {e e' : EnvD} {s s' : GS} {N : Nds} (h : q e s = some (.nx e' s')) (k : Wt (r e' s') N) : Wt (mSeq q r e s) N := by
  have : mSeq q r e s = r e' s' := by unfold mSeq; rw [h]
  rw [this]; exact k
/-- the two tests of a turn -/
theorem tests_ok {o0 o1 o3 o6 o9 o10 : Option D} (fo : FdOk l) (mo : MkOk ms) (L : LS m k t) (hk : k ≤ 900000) {Z : Str} (hZ : ∀ s : GS, fReprX [.lst [.dic (dZd l), .dic (dZd ms)]] s = some (.v (.str Z), s)) :
    Wt (mSeq L02_0_1_3 L02_0_1_4 [o0, o1, some (.obj m), o3, some (.dic (dZd l)), some (.dic (dZd ms)), o6, some (dueD l ms), some (.v (.str Z)), o9, o10] t)
      {nx := fun e u => LS m (k + 120) u ∧ e = [o0, o1, some (.obj m), o3, some (.dic (dZd l)), some (.dic (dZd ms)), o6, some (dueD l ms), some (.v (.str Z)), o9, o10]} := by
  obtain ⟨zd, hd⟩ := show_due fo mo
  have e1 := error_any (s := t) (x := .dic (dZd l)) (y := .dic (dZd ms)) fo mo L.wf rfl rfl
  obtain ⟨l', t1, q1, d1, T1⟩ := turned_any fo.nd fo.le fo.ak (fun p hp n => bd_VF (fo.vs p hp) n) L.bag (by omega) L.wf
  have L1 := L.of d1
  obtain ⟨m', t2, q2, d2, T2⟩ := turned_any mo.nd mo.le mo.ak (fun p hp n => bd_otM (mo.vs p hp) n) L1.bag (by omega) L1.wf
  have L2' := L1.of d2
  have e2 := error_any (s := t2) (x := .dic (dZd l')) (y := .dic (dZd m')) (fo.turn T1) (mo.turn T2) L2'.wf rfl rfl
  rw [T1.dueD T2] at e2
  have ns1 : ∀ {z : Str} {s : GS}, fNe (.v (.str z)) (.v (.str z)) s = some (.v (.bl false), s) := fun {z s} => fNe_ss
  have nd : ∀ {Q : Kq D} {s : GS}, kVar (some (some (dueD l ms))) Q s = Q.ok (dueD l ms) s := fun {Q s} => kv_of due_nx
  unfold L02_0_1_3 L02_0_1_4
  generalize dueD l ms = DU at *
  generalize dZd l' = A' at *
  generalize dZd m' = B' at *
  generalize dZd l = A at *
  generalize dZd ms = B at *
  simp only [wW, e1, hd, hZ, ns1, nd, q1, q2, e2]
  first | exact L2'.up (by omega) | exact ⟨L2'.up (by omega), rfl⟩
theorem turn_ok {k : Int} {u : GS} {x1 x3 : Option D} {rest : List (Option D)} (L : LS m k u) (hk : k ≤ 3600) (hr : rest.length = 7) :
    Wt (L02_0_1_B (some (lsD ns) :: x1 :: some (.obj m) :: x3 :: rest) u) {nx := fun e t => LS m (k + 300) t ∧ ∃ x3 rest, e = some (lsD ns) :: x1 :: some (.obj m) :: x3 :: rest ∧ rest.length = 7} := by
  match rest, hr with
  | [o4, o5, o6, o7, o8, o9, o10], _ =>
    obtain ⟨l0, m0, s1, q1, fo0, fl0, mo0, ml0, d1⟩ := rule_q L.bag (by omega)
    have l1 : s1.length = u.length := d1.len
    unfold L02_0_1_B
    have a0 : L02_0_1_0 [some (lsD ns), x1, some (.obj m), x3, o4, o5, o6, o7, o8, o9, o10] u = some (.nx [some (lsD ns), x1, some (.obj m), x3, some (.obj u.length), some (.obj (u.length + 1)), o6, o7, o8, o9, o10] (s1 ++ [.dic (dZd l0), .dic (dZd m0)])) := by
      have c : mCall q__law_rule [] (mCons (mVar 2) mNil) [some (lsD ns), x1, some (.obj m), x3, o4, o5, o6, o7, o8, o9, o10] u = some (.ok (.tup [.obj u.length, .obj (u.length + 1)]) (s1 ++ [.dic (dZd l0), .dic (dZd m0)])) := by
        have v2 : mVar 2 [some (lsD ns), x1, some (.obj m), x3, o4, o5, o6, o7, o8, o9, o10] u = some (.ok (.obj m) u) := rfl
        simp only [mCall, mCons, mNil, v2, bn, List.append_nil, q1]
      unfold L02_0_1_0 mAsg
      rw [c]
      rfl
    refine w_eqS a0 ?_
    obtain ⟨r, s2, e2, r0, r1, d2⟩ := drawT [.dic (dZd l0), .dic (dZd m0)] d1 (n := 4) (by omega) (by omega) (by omega)
    have c2 : mCall m__law_take_d4ae [] (mCons (mVar 2) (mCons (mC (.int 4)) mNil)) [some (lsD ns), x1, some (.obj m), x3, some (.obj u.length), some (.obj (u.length + 1)), o6, o7, o8, o9, o10] (s1 ++ [.dic (dZd l0), .dic (dZd m0)]) = _ := mtake_eq (ea := mVar 2) (eb := mC (.int 4)) rfl rfl e2
    have rg := rng1_eq c2 (by omega) (by omega)
    have lp := mLoop_n (g := mgName 6) (b := L02_0_1_1_B)
      (fun i e t => i ≤ 3 → ∃ o6 l ms s', e = [some (lsD ns), x1, some (.obj m), x3, some (.obj u.length), some (.obj (u.length + 1)), o6, o7, o8, o9, o10] ∧ t = s' ++ [.dic (dZd l), .dic (dZd ms)] ∧ FdOk l ∧ MkOk ms ∧ l.length ≤ 7 + i ∧ ms.length ≤ 7 + i ∧ Drw u m (k + 61 + 3 * (i : Nat)) s')
      (rng 0 r.toNat) 0 [some (lsD ns), x1, some (.obj m), x3, some (.obj u.length), some (.obj (u.length + 1)), o6, o7, o8, o9, o10] (s2 ++ [.dic (dZd l0), .dic (dZd m0)]) (fun _ => ⟨_, _, _, _, rfl, rfl, fo0, mo0, by omega, by omega, d2.up (by omega)⟩) fun i d e t hi hp => by
        have hi3 : i < r.toNat := by
          have := (List.getElem?_eq_some_iff.mp hi).1
          rwa [rng_len] at this
        obtain ⟨o6, l, ms, s', rfl, rfl, fo, mo, fl, ml, dw⟩ := hp (by omega)
        rw [Nat.zero_add] at fl ml dw
        obtain ⟨l', ms', s3, q3, fo', mo', fl', ml', d3⟩ := bent_ok (st := u) fo mo (by omega) (by omega) dw (by omega) dw.len
        have cb : L02_0_1_1_B [some (lsD ns), x1, some (.obj m), x3, some (.obj u.length), some (.obj (u.length + 1)), some d, o7, o8, o9, o10] (s' ++ [.dic (dZd l), .dic (dZd ms)]) = some (.nx [some (lsD ns), x1, some (.obj m), x3, some (.obj u.length), some (.obj (u.length + 1)), some d, o7, o8, o9, o10] (s3 ++ [.dic (dZd l'), .dic (dZd ms')])) := by
          have v2 : ∀ S, mVar 2 [some (lsD ns), x1, some (.obj m), x3, some (.obj u.length), some (.obj (u.length + 1)), some d, o7, o8, o9, o10] S = some (.ok (.obj m) S) := fun _ => rfl
          have v4 : ∀ S, mVar 4 [some (lsD ns), x1, some (.obj m), x3, some (.obj u.length), some (.obj (u.length + 1)), some d, o7, o8, o9, o10] S = some (.ok (.obj u.length) S) := fun _ => rfl
          have v5 : ∀ S, mVar 5 [some (lsD ns), x1, some (.obj m), x3, some (.obj u.length), some (.obj (u.length + 1)), some d, o7, o8, o9, o10] S = some (.ok (.obj (u.length + 1)) S) := fun _ => rfl
          unfold L02_0_1_1_B
          simp only [mDrop, mCall, mCons, mNil, v2, v4, v5, bn, List.append_nil, q3, bnS]
        refine ⟨_, _, _, _, rfl, .inl cb, fun _ => ⟨_, l', ms', s3, rfl, rfl, fo', mo', by omega, by omega, d3.up (by omega)⟩⟩
    obtain ⟨e5, t5, lp1, lp2⟩ := lp
    rw [rng_len, Nat.zero_add] at lp2
    obtain ⟨o6', l, ms, s3, rfl, rfl, fo, mo, fl, ml, d3⟩ := lp2 (by omega)
    have a1 : L02_0_1_1 [some (lsD ns), x1, some (.obj m), x3, some (.obj u.length), some (.obj (u.length + 1)), o6, o7, o8, o9, o10] (s1 ++ [.dic (dZd l0), .dic (dZd m0)]) = some (.nx [some (lsD ns), x1, some (.obj m), x3, some (.obj u.length), some (.obj (u.length + 1)), o6', o7, o8, o9, o10] (s3 ++ [.dic (dZd l), .dic (dZd ms)])) := mFor_eq rg lp1
    refine w_eqS a1 ?_
    have l3 : s3.length = u.length := d3.len
    have w3 : Wf s3 := d3.fl L.wf
    have L3 : LS m (k + 70) (s3 ++ [.free, .free]) := by
      have h0 : LS m (k + 70) s3 := (L.of d3).up (by omega)
      have h1 := (h0.cell (c := .free) fun _ => rfl).cell (c := .free) fun _ => rfl
      rwa [List.append_assoc] at h1
    obtain ⟨Z, hZ⟩ := show_two fo mo
    have a2 : L02_0_1_2 [some (lsD ns), x1, some (.obj m), x3, some (.obj u.length), some (.obj (u.length + 1)), o6', o7, o8, o9, o10] (s3 ++ [.dic (dZd l), .dic (dZd ms)]) = some (.nx [some (lsD ns), x1, some (.obj m), x3, some (.dic (dZd l)), some (.dic (dZd ms)), o6', some (dueD l ms), some (.v (.str Z)), o9, o10] (s3 ++ [.free, .free])) := by
      have f1 : frz (s3 ++ [.dic (dZd l), .dic (dZd ms)]) (.obj (u.length + 1)) = some (.dic (dZd ms), s3 ++ [.dic (dZd l), .free]) := by
        rw [← l3]
        simp only [frz, cell1, restD, Option.map_some, cset1]
      have f2 : frz (s3 ++ [.dic (dZd l), .free]) (.obj u.length) = some (.dic (dZd l), s3 ++ [.free, .free]) := by
        rw [← l3]
        simp only [frz, cell0, restD, Option.map_some, cset0]
      have e1 := due_any (s := s3 ++ [.free, .free]) (x := .dic (dZd l)) (y := .dic (dZd ms)) fo mo rfl rfl
      have hZ := hZ (s3 ++ [.free, .free])
      unfold L02_0_1_2 mFrz
      simp only [List.getElem?_cons_succ, List.getElem?_cons_zero, f1, List.set_cons_succ, List.set_cons_zero]
      simp only [f2, List.set_cons_succ, List.set_cons_zero]
      generalize dueD l ms = DU at *
      generalize dZd l = A at *
      generalize dZd ms = B at *
      have v4 : ∀ S, mVar 4 [some (lsD ns), x1, some (.obj m), x3, some (.dic A), some (.dic B), o6', o7, o8, o9, o10] S = some (.ok (.dic A) S) := fun _ => rfl
      have v5 : ∀ S, mVar 5 [some (lsD ns), x1, some (.obj m), x3, some (.dic A), some (.dic B), o6', o7, o8, o9, o10] S = some (.ok (.dic B) S) := fun _ => rfl
      have ll : ∀ S, mLst (mCons (mVar 4) (mCons (mVar 5) mNil)) [some (lsD ns), x1, some (.obj m), x3, some (.dic A), some (.dic B), o6', o7, o8, o9, o10] S = some (.ok (.lst [.dic A, .dic B]) S) := fun _ => rfl
      simp only [mPar, mCall, mCB, mCons, mNil, v4, v5, ll, bn, bnS, List.append_nil, e1, hZ, lft]
      first | done | rfl
    refine w_eqS a2 ?_
    refine Wt.imp (tests_ok fo mo L3 (by omega) hZ) ?_
    rintro e t ⟨h1, rfl⟩
    exact ⟨h1.up (by omega), _, _, rfl, rfl⟩
end
end Nm
set_option Elab.async false
set_option linter.all false
set_option maxRecDepth 100000
set_option maxHeartbeats 8000000
namespace Nm
open PySem PySem.Spec PyProof.Rows L2 Evl
section
variable {s t u st s1 : GS} {z : Str} {x y v : D} {l ms l' : List (Str × D)} {m : Nat} {k : Int} {ns : List Int}
/-- a dict in a cell is filled, one sign after the other, with one value -/
theorem fill {j : Nat} {w : V} {p : Nat} {e0 e1 e2 e3 e4 e5 e6 e7 e8 e9 : Option D} (hj : ∀ o S, mVar j [e0, e1, e2, e3, e4, e5, e6, e7, e8, e9, o] S = some (.ok (.obj p) S)) : ∀ (cs : List Nat) (l : List (Str × D)) (S : GS) (o : Option D), S[p]? = some (.dic (dZd l)) → (l.map (·.1) ++ cs.map sgS).Nodup → l.length + cs.length ≤ 1000 →
    ∃ o', mLoop (mgName 10) (mSetI (mVar j) (mVar 10) (mC w)) (sgsD cs) [e0, e1, e2, e3, e4, e5, e6, e7, e8, e9, o] S = some (.nx [e0, e1, e2, e3, e4, e5, e6, e7, e8, e9, o'] (S.set p (.dic (dZd (l ++ cs.map fun c => (sgS c, .v w))))))
  | [], l, S, o, hc, hn, hl => by
    refine ⟨o, ?_⟩
    have : S.set p (.dic (dZd l)) = S := by
      obtain ⟨h1, h2⟩ := List.getElem?_eq_some_iff.mp hc
      rw [← h2]
      exact List.set_getElem_self h1
    rw [List.map_nil, List.append_nil, this]
    rfl
  | c :: r, l, S, o, hc, hn, hl => by
    have hp : p < S.length := (List.getElem?_eq_some_iff.mp hc).1
    have zn : sgS c ∉ l.map (·.1) := fun hm => by
      rw [List.nodup_append] at hn
      exact hn.2.2 _ hm _ (List.mem_cons_self ..) rfl
    have pt : putD (dZd l) (Sum.inr (sgS c)) (.v w) = dZd (l ++ [(sgS c, .v w)]) := by
      rw [putD_new (vl_none zn)]
      unfold dZd
      rw [List.map_append]
      rfl
    have st : mSetI (mVar j) (mVar 10) (mC w) [e0, e1, e2, e3, e4, e5, e6, e7, e8, e9, some (.v (.str (sgS c)))] S = some (.nx [e0, e1, e2, e3, e4, e5, e6, e7, e8, e9, some (.v (.str (sgS c)))] (S.set p (.dic (dZd (l ++ [(sgS c, .v w)]))))) := by
      rw [← pt]
      exact put_cell rfl (hj _ _) rfl hc (by have : (dZd l).length = l.length := List.length_map ..; simp only [List.length_cons] at hl; omega)
    obtain ⟨o', ih⟩ := fill hj r (l ++ [(sgS c, .v w)]) (S.set p (.dic (dZd (l ++ [(sgS c, .v w)])))) (some (.v (.str (sgS c)))) (by rw [List.getElem?_set_self hp]) (by
      rw [List.map_append, List.append_assoc]
      exact hn) (by rw [List.length_append]; simp only [List.length_cons, List.length_nil] at hl ⊢; omega)
    refine ⟨o', ?_⟩
    rw [List.set_set, List.append_assoc] at ih
    have : mLoop (mgName 10) (mSetI (mVar j) (mVar 10) (mC w)) (sgsD (c :: r)) [e0, e1, e2, e3, e4, e5, e6, e7, e8, e9, o] S = mLoop (mgName 10) (mSetI (mVar j) (mVar 10) (mC w)) (sgsD r) [e0, e1, e2, e3, e4, e5, e6, e7, e8, e9, some (.v (.str (sgS c)))] (S.set p (.dic (dZd (l ++ [(sgS c, .v w)])))) := by
      show (match mSetI (mVar j) (mVar 10) (mC w) [e0, e1, e2, e3, e4, e5, e6, e7, e8, e9, some (.v (.str (sgS c)))] S with | some (.nx e s) => _ | some (.ct e s) => _ | some (.bk e s) => _ | some (.rt d s) => _ | some (.ex c fs e s) => _ | none => _) = _
      rw [st]
      rfl
    rw [this]
    exact ih
def C41 : List Nat := ("ABCDEFGHIJKLMNOPQRSTUVWXYZabcdefghijklmnopqrstuvwxy" : Str).cps.toList.take 41
def C9 : List Nat := ("012345678" : Str).cps.toList
def lz (cs : List Nat) : List (Str × D) := cs.map fun c => (sgS c, .v (.str "z"))
def l1 (cs : List Nat) : List (Str × D) := cs.map fun c => (sgS c, .v (.int 1))
theorem lz_ok {cs : List Nat} (hn : cs.Nodup) (hl : cs.length ≤ 60) (ha : ∀ c ∈ cs, c < 128) : FdOk (lz cs) := by
  refine ⟨?_, by unfold lz; rw [List.length_map]; exact hl, fun q hq => ?_, fun q hq => ?_⟩
  · unfold lz
    rw [List.map_map]
    refine List.pairwise_map.mpr ?_
    exact hn.imp fun {a b} hne e => hne (sgS_inj e)
  · obtain ⟨c, hc, rfl⟩ := List.mem_map.mp hq
    refine ⟨by show 1 ≤ 100; decide, fun d hd => ?_⟩
    have hd : d ∈ [c] := hd
    rw [List.mem_singleton.mp hd]
    exact ha c hc
  · obtain ⟨c, hc, rfl⟩ := List.mem_map.mp hq
    exact VF_txt (by decide +kernel)
theorem l1_ok {cs : List Nat} (hn : cs.Nodup) (hl : cs.length ≤ 60) (ha : ∀ c ∈ cs, c < 128) : MkOk (l1 cs) := by
  refine ⟨?_, by unfold l1; rw [List.length_map]; exact hl, fun q hq => ?_, fun q hq => ?_⟩
  · unfold l1
    rw [List.map_map]
    refine List.pairwise_map.mpr ?_
    exact hn.imp fun {a b} hne e => hne (sgS_inj e)
  · obtain ⟨c, hc, rfl⟩ := List.mem_map.mp hq
    refine ⟨by show 1 ≤ 100; decide, fun d hd => ?_⟩
    have hd : d ∈ [c] := hd
    rw [List.mem_singleton.mp hd]
    exact ha c hc
  · obtain ⟨c, hc, rfl⟩ := List.mem_map.mp hq
    show D.v (.int 1) ∈ otM
    unfold otM
    simp
theorem c41 : C41.Nodup ∧ C41.length = 41 ∧ (∀ c ∈ C41, c < 128) ∧ C9.Nodup ∧ C9.length = 9 ∧ (∀ c ∈ C9, c < 128) := by decide +kernel
theorem dueF_no (h : ∀ p ∈ l, (badFz l p.1).isNone = true) : dueF l = none := by
  unfold dueF
  rw [List.findSome?_eq_none_iff]
  intro z hz
  obtain ⟨p, hp, rfl⟩ := List.mem_map.mp (mem_srt.mp hz)
  exact Option.isNone_iff_eq_none.mp (h p hp)
theorem dueM_no (h : ∀ p ∈ ms, (badMz l ms p.1).isNone = true) : dueM l ms = none := by
  unfold dueM
  rw [List.findSome?_eq_none_iff]
  intro z hz
  obtain ⟨p, hp, rfl⟩ := List.mem_map.mp (mem_srt.mp hz)
  exact Option.isNone_iff_eq_none.mp (h p hp)
def m4 : List (Str × D) := [("0", .v (.int 4))]
theorem m4_ok : MkOk m4 := ⟨by decide +kernel, by decide, by decide +kernel, by unfold m4 otM; simp⟩
theorem f0_ok : FdOk [] := ⟨List.nodup_nil, by decide, (fun _ h => nomatch h), (fun _ h => nomatch h)⟩
theorem m0_ok : MkOk [] := ⟨List.nodup_nil, by decide, (fun _ h => nomatch h), (fun _ h => nomatch h)⟩
theorem due_a : dueD (lz C41) (l1 C9) = .tup [.v (.str "many"), .v (.int 40)] := by
  unfold dueD
  rw [dueF_no (by decide +kernel)]
  dsimp only
  rw [dueM_no (by decide +kernel)]
  dsimp only
  rw [if_pos (by decide +kernel)]
theorem due_b : dueD [] (l1 C9) = .tup [.v (.str "many"), .v (.int 8)] := by
  unfold dueD
  rw [dueF_no (by decide +kernel)]
  dsimp only
  rw [dueM_no (by decide +kernel)]
  dsimp only
  rw [if_neg (by decide +kernel), if_pos (by decide +kernel)]
theorem due_c : dueD (lz (C41.drop 1)) (l1 C9) = .tup [.v (.str "many"), .v (.int 8)] := by
  unfold dueD
  rw [dueF_no (by decide +kernel)]
  dsimp only
  rw [dueM_no (by decide +kernel)]
  dsimp only
  rw [if_neg (by decide +kernel), if_pos (by decide +kernel)]
theorem due_d : dueD (lz (C41.drop 1)) m4 = .tup [.v (.str "mark"), .v (.str "0")] := by
  unfold dueD
  rw [dueF_no (by decide +kernel)]
  dsimp only
  have : dueM (lz (C41.drop 1)) m4 = some (Kd.mk, ("0" : Str)) := by
    unfold dueM
    have e : srtZ (m4.map (·.1)) = [("0" : Str)] := by
      show List.mergeSort [("0" : Str)] ordZ = _
      exact List.mergeSort_singleton _
    rw [e]
    show (match badMz (lz (C41.drop 1)) m4 "0" with | some b => some b | none => none) = _
    have sg : sgZ "0" = true := by decide +kernel
    have hv : vl m4 "0" = some (.v (.int 4)) := rfl
    rw [badM_cl sg hv rfl]
  rw [this]
  rfl
theorem due_e : dueD (lz (C41.drop 1)) (l1 (C9.take 8)) = .tup [] := by
  unfold dueD
  rw [dueF_no (by decide +kernel)]
  dsimp only
  rw [dueM_no (by decide +kernel)]
  dsimp only
  rw [if_neg (by decide +kernel), if_neg (by decide +kernel)]
theorem due_f : dueD [] [] = .tup [] := by
  unfold dueD
  rw [dueF_no (fun _ h => by cases h)]
  dsimp only
  rw [dueM_no (fun _ h => by cases h)]
  rfl
theorem nxeq {r : Option SR} {E : EnvD} {S : GS} (h : Wt r {nx := fun e s => e = E ∧ s = S}) : r = some (.nx E S) := by
  obtain ⟨e, s, h', rfl, rfl⟩ := Wt.next h
  exact h'
theorem tail_ok {y z : Option D} {rest : List (Option D)} (wt : Wf t) (hr : rest.length = 8) :
    Wt (mSeq L02_1 (mSeq L02_2 (mSeq L02_3 (mSeq L02_4 (mSeq L02_5 (mSeq L02_6 (mSeq L02_7 (mSeq L02_8 (L02_9)))))))) (some (lsD ns) :: y :: z :: rest) t) {nx := fun _ _ => False, rt := fun d _ => d = .v (.bl true)} := by
  match rest, hr with
  | [o3, o4, o5, o6, o7, o8, o9, o10], _ =>
    have b1 : L02_1 [some (lsD ns), y, z, o3, o4, o5, o6, o7, o8, o9, o10] t = some (.nx [some (lsD ns), y, z, o3, o4, o5, o6, o7, o8, some (.v (.str "ABCDEFGHIJKLMNOPQRSTUVWXYZabcdefghijklmnopqrstuvwxy")), o10] t) := rfl
    refine w_eqS b1 ?_
    have b2 : L02_2 [some (lsD ns), y, z, o3, o4, o5, o6, o7, o8, some (.v (.str "ABCDEFGHIJKLMNOPQRSTUVWXYZabcdefghijklmnopqrstuvwxy")), o10] t = some (.nx [some (lsD ns), y, z, o3, some (.obj t.length), some (.obj (t.length + 1)), o6, o7, o8, some (.v (.str "ABCDEFGHIJKLMNOPQRSTUVWXYZabcdefghijklmnopqrstuvwxy")), o10] (t ++ [.dic [], .dic []])) := by
      unfold L02_2
      simp [mPar, mCons, mDNewC, mNil, bn, bnS]
    refine w_eqS b2 ?_
    obtain ⟨h1, h2, h3, h4, h5, h6⟩ := c41
    have nd1 : (C41.map sgS).Nodup := List.pairwise_map.mpr (h1.imp fun {a b} hne e => hne (sgS_inj e))
    have nd2 : (C9.map sgS).Nodup := List.pairwise_map.mpr (h4.imp fun {a b} hne e => hne (sgS_inj e))
    obtain ⟨oa, f1⟩ := fill (j := 4) (w := .str "z") (p := t.length) (e0 := some (lsD ns)) (e1 := y) (e2 := z) (e3 := o3) (e4 := some (.obj t.length)) (e5 := some (.obj (t.length + 1))) (e6 := o6) (e7 := o7) (e8 := o8) (e9 := some (.v (.str "ABCDEFGHIJKLMNOPQRSTUVWXYZabcdefghijklmnopqrstuvwxy"))) (fun _ _ => rfl) C41 [] (t ++ [.dic [], .dic []]) o10 cell0 nd1 (by rw [h2]; decide)
    rw [cset0] at f1
    replace f1 : mLoop (mgName 10) L02_3_B (sgsD C41) [some (lsD ns), y, z, o3, some (.obj t.length), some (.obj (t.length + 1)), o6, o7, o8, some (.v (.str "ABCDEFGHIJKLMNOPQRSTUVWXYZabcdefghijklmnopqrstuvwxy")), o10] (t ++ [.dic [], .dic []]) = some (.nx [some (lsD ns), y, z, o3, some (.obj t.length), some (.obj (t.length + 1)), o6, o7, o8, some (.v (.str "ABCDEFGHIJKLMNOPQRSTUVWXYZabcdefghijklmnopqrstuvwxy")), oa] (t ++ [.dic (dZd (lz C41)), .dic []])) := f1
    have it3 : mItems (mSl fSl (mVar 9) mNoPart (mPart (mC (.int 41)))) [some (lsD ns), y, z, o3, some (.obj t.length), some (.obj (t.length + 1)), o6, o7, o8, some (.v (.str "ABCDEFGHIJKLMNOPQRSTUVWXYZabcdefghijklmnopqrstuvwxy")), o10] (t ++ [.dic [], .dic []]) = some (.ok (sgsD C41) (t ++ [.dic [], .dic []])) := by
      kernel_rfl
    refine w_eqS (q := L02_3) (mFor_eq it3 f1) ?_
    obtain ⟨ob, f2⟩ := fill (j := 5) (w := .int 1) (p := t.length + 1) (e0 := some (lsD ns)) (e1 := y) (e2 := z) (e3 := o3) (e4 := some (.obj t.length)) (e5 := some (.obj (t.length + 1))) (e6 := o6) (e7 := o7) (e8 := o8) (e9 := some (.v (.str "ABCDEFGHIJKLMNOPQRSTUVWXYZabcdefghijklmnopqrstuvwxy"))) (fun _ _ => rfl) C9 [] (t ++ [.dic (dZd (lz C41)), .dic []]) oa cell1 nd2 (by rw [h5]; decide)
    rw [cset1] at f2
    replace f2 : mLoop (mgName 10) L02_4_B (sgsD C9) [some (lsD ns), y, z, o3, some (.obj t.length), some (.obj (t.length + 1)), o6, o7, o8, some (.v (.str "ABCDEFGHIJKLMNOPQRSTUVWXYZabcdefghijklmnopqrstuvwxy")), oa] (t ++ [.dic (dZd (lz C41)), .dic []]) = some (.nx [some (lsD ns), y, z, o3, some (.obj t.length), some (.obj (t.length + 1)), o6, o7, o8, some (.v (.str "ABCDEFGHIJKLMNOPQRSTUVWXYZabcdefghijklmnopqrstuvwxy")), ob] (t ++ [.dic (dZd (lz C41)), .dic (dZd (l1 C9))])) := f2
    refine w_eqS (q := L02_4) (mFor_eq mItems_str f2) ?_
    generalize hE : (some (D.v (.str "ABCDEFGHIJKLMNOPQRSTUVWXYZabcdefghijklmnopqrstuvwxy")) : Option D) = E9
    have o41 := lz_ok h1 (by omega) h3
    have o9' := l1_ok h4 (by omega) h6
    have o40 := lz_ok (cs := C41.drop 1) (h1.sublist (List.drop_sublist ..)) (by rw [List.length_drop]; omega) fun c hc => h3 c (List.mem_of_mem_drop hc)
    have o8' := l1_ok (cs := C9.take 8) (h4.sublist (List.take_sublist ..)) (by rw [List.length_take]; omega) fun c hc => h6 c (List.mem_of_mem_take hc)
    have w1 : ∀ {a b : List (Str × D)}, FdOk a → MkOk b → Wf (t ++ [.dic (dZd a), .dic (dZd b)]) := fun {a b} ha hb => by
      have := (wt.app (c := .dic (dZd a)) (ha.bd _)).app (c := .dic (dZd b)) (hb.bd _)
      rwa [List.append_assoc] at this
    have dv0 : ∀ {a b : List (Str × D)}, dvw (t ++ [.dic (dZd a), .dic (dZd b)]) (.obj t.length) = some (dZd a) := fun {a b} => by simp only [dvw, cell0]
    have dv1 : ∀ {a b : List (Str × D)}, dvw (t ++ [.dic (dZd a), .dic (dZd b)]) (.obj (t.length + 1)) = some (dZd b) := fun {a b} => by simp only [dvw, cell1]
    -- 41 and 9
    have qa := error_any o41 o9' (w1 o41 o9') dv0 dv1
    have qb := error_any (x := .dic []) f0_ok o9' (w1 o41 o9') rfl dv1
    rw [due_a] at qa
    rw [due_b] at qb
    have na : ∀ S, fNe (.tup [.v (.str "many"), .v (.int 40)]) (.tup [.v (.str "many"), .v (.int 40)]) S = some (.v (.bl false), S) := fun S => by kernel_rfl
    have nb : ∀ S, fNe (.tup [.v (.str "many"), .v (.int 8)]) (.tup [.v (.str "many"), .v (.int 8)]) S = some (.v (.bl false), S) := fun S => by kernel_rfl
    have nc : ∀ S, fNe (.tup [.v (.str "mark"), .v (.str "0")]) (.tup [.v (.str "mark"), .v (.str "0")]) S = some (.v (.bl false), S) := fun S => by kernel_rfl
    have ne : ∀ S, fEq (.tup []) (.tup []) S = some (.v (.bl true), S) := fun S => by kernel_rfl
    have b5 : L02_5 [some (lsD ns), y, z, o3, some (.obj t.length), some (.obj (t.length + 1)), o6, o7, o8, E9, ob] (t ++ [.dic (dZd (lz C41)), .dic (dZd (l1 C9))]) = some (.nx [some (lsD ns), y, z, o3, some (.obj t.length), some (.obj (t.length + 1)), o6, o7, o8, E9, ob] (t ++ [.dic (dZd (lz C41)), .dic (dZd (l1 C9))])) := by
      refine nxeq ?_
      generalize hS : t ++ [Cell.dic (dZd (lz C41)), .dic (dZd (l1 C9))] = S at *
      have na := na S
      have nb := nb S
      have nc := nc S
      unfold L02_5
      simp only [wW, qa, qb, na, nb]
      first | done | exact ⟨rfl, rfl⟩
    refine w_eqS b5 ?_
    have b6 : L02_6 [some (lsD ns), y, z, o3, some (.obj t.length), some (.obj (t.length + 1)), o6, o7, o8, E9, ob] (t ++ [.dic (dZd (lz C41)), .dic (dZd (l1 C9))]) = some (.nx [some (lsD ns), y, z, o3, some (.obj t.length), some (.obj (t.length + 1)), o6, o7, o8, E9, ob] (t ++ [.dic (dZd (lz (C41.drop 1))), .dic (dZd (l1 C9))])) := by
      have v4 : ∀ S, mVar 4 [some (lsD ns), y, z, o3, some (.obj t.length), some (.obj (t.length + 1)), o6, o7, o8, E9, ob] S = some (.ok (.obj t.length) S) := fun _ => rfl
      have k1 : kOf (.v (.str "A")) = some (Sum.inr ("A" : Str) : Key) := rfl
      have k2 : valD (dZd (lz C41)) (Sum.inr ("A" : Str)) = some (.v (.str "z")) := by kernel_rfl
      have k3 : dropD (dZd (lz C41)) (Sum.inr ("A" : Str)) = dZd (lz (C41.drop 1)) := by kernel_rfl
      unfold L02_6
      simp only [mDrop, mDPop1, v4, mC, bn, bnS, cell0, k1, k2, k3, cset0]
    refine w_eqS b6 ?_
    have qc := error_any o40 o9' (w1 o40 o9') dv0 dv1
    have qd := error_any (y := .dic (dZd m4)) o40 m4_ok (w1 o40 o9') dv0 rfl
    rw [due_c] at qc
    rw [due_d] at qd
    have b7 : L02_7 [some (lsD ns), y, z, o3, some (.obj t.length), some (.obj (t.length + 1)), o6, o7, o8, E9, ob] (t ++ [.dic (dZd (lz (C41.drop 1))), .dic (dZd (l1 C9))]) = some (.nx [some (lsD ns), y, z, o3, some (.obj t.length), some (.obj (t.length + 1)), o6, o7, o8, E9, ob] (t ++ [.dic (dZd (lz (C41.drop 1))), .dic (dZd (l1 C9))])) := by
      have dd : ∀ S, mDisp (((mC (.str "0")), (mC (.int 4))) :: []) [some (lsD ns), y, z, o3, some (.obj t.length), some (.obj (t.length + 1)), o6, o7, o8, E9, ob] S = some (.ok (.dic (dZd m4)) S) := fun S => by kernel_rfl
      refine nxeq ?_
      generalize hS : t ++ [Cell.dic (dZd (lz (C41.drop 1))), .dic (dZd (l1 C9))] = S at *
      have na := na S
      have nb := nb S
      have nc := nc S
      unfold L02_7
      simp only [wW, qc, qd, dd, nb, nc]
      first | done | exact ⟨rfl, rfl⟩
    refine w_eqS b7 ?_
    have b8 : L02_8 [some (lsD ns), y, z, o3, some (.obj t.length), some (.obj (t.length + 1)), o6, o7, o8, E9, ob] (t ++ [.dic (dZd (lz (C41.drop 1))), .dic (dZd (l1 C9))]) = some (.nx [some (lsD ns), y, z, o3, some (.obj t.length), some (.obj (t.length + 1)), o6, o7, o8, E9, ob] (t ++ [.dic (dZd (lz (C41.drop 1))), .dic (dZd (l1 (C9.take 8)))])) := by
      have v5 : ∀ S, mVar 5 [some (lsD ns), y, z, o3, some (.obj t.length), some (.obj (t.length + 1)), o6, o7, o8, E9, ob] S = some (.ok (.obj (t.length + 1)) S) := fun _ => rfl
      have k1 : kOf (.v (.str "8")) = some (Sum.inr ("8" : Str) : Key) := rfl
      have k2 : valD (dZd (l1 C9)) (Sum.inr ("8" : Str)) = some (.v (.int 1)) := by kernel_rfl
      have k3 : dropD (dZd (l1 C9)) (Sum.inr ("8" : Str)) = dZd (l1 (C9.take 8)) := by kernel_rfl
      unfold L02_8
      simp only [mDrop, mDPop1, v5, mC, bn, bnS, cell1, k1, k2, k3, cset1]
    refine w_eqS b8 ?_
    have qe := error_any o40 o8' (w1 o40 o8') dv0 dv1
    have qf := error_any (x := .dic []) (y := .dic []) f0_ok m0_ok (w1 o40 o8') rfl rfl
    rw [due_e] at qe
    rw [due_f] at qf
    generalize hS : t ++ [Cell.dic (dZd (lz (C41.drop 1))), .dic (dZd (l1 (C9.take 8)))] = S at *
    have ne := ne S
    unfold L02_9
    simp only [wW, qe, qf, ne]
    first | done | rfl
end
end Nm
set_option Elab.async false
set_option linter.all false
set_option maxRecDepth 100000
set_option maxHeartbeats 8000000
namespace Nm
open PySem PySem.Spec PyProof.Rows L2 Evl
theorem law_true : ∀ ns : List Int, ns.length ≤ 63 → ∃ st, q_law [.lsk (ns.map fun i => .v (.int i))] [] = some (.ok (.v (.bl true)) st) := by
  intro ns _
  refine law_end (b := bq_law) ?_
  rw [L02_all]
  unfold L02_B
  rw [w_seq]
  show Wt (mFor (RNGK ((6 : Nat) : Int)) (mgName 1) (mSeq BAGA L02_0_1) (some (lsD ns) :: none :: none :: List.replicate 8 none) []) _
  refine cells_loop (by decide) (n := 8) rfl rfl ?_ ?_
  · rintro i u m rest h0 hr
    rcases rest with _ | ⟨x3, rest⟩
    · cases hr
    · refine turns_loop (T := 12) (c := 300) (n := 7) (by decide) (by decide) (Nat.succ.inj hr) h0 ?_ ?_
      · rintro k u x3 rest hL hk hr
        exact turn_ok hL (by simp at hk; omega) hr
      · rintro x3 rest t hL hr
        exact ⟨hL.wf, _, _, _, rfl, by rw [List.length_cons, hr]⟩
  · rintro y z rest t wt hr
    rw [w_kseq]
    exact tail_ok wt hr
end Nm
set_option Elab.async false
set_option linter.all false
set_option maxRecDepth 100000
set_option maxHeartbeats 4000000
namespace Nm
open PySem PySem.Spec PyProof.Rows L2 Evl
theorem all_mk {l : PySem.W.OpenLaw} {w : World} {K : Fg} {h : Heap} {mg : Str → Option Value} {fa : Addr} {q : Program} (X : K.In h) (G : h.Ns mainGlobals mg) (hfa : mg "law" = some (.ref fa))
    {C_NoSign C_NoFold C_NoMark C_NoWord C_NoPath C_NoDeed C_NoText C_NoCommand C_TooMany C_Table K_MARK_CLASSES : Addr}
     (nC_NoSign : PySem.W.nsIn K mainGlobals "NoSign" = some (some (.ref C_NoSign)))
     (nC_NoFold : PySem.W.nsIn K mainGlobals "NoFold" = some (some (.ref C_NoFold)))
     (nC_NoMark : PySem.W.nsIn K mainGlobals "NoMark" = some (some (.ref C_NoMark)))
     (nC_NoWord : PySem.W.nsIn K mainGlobals "NoWord" = some (some (.ref C_NoWord)))
     (nC_NoPath : PySem.W.nsIn K mainGlobals "NoPath" = some (some (.ref C_NoPath)))
     (nC_NoDeed : PySem.W.nsIn K mainGlobals "NoDeed" = some (some (.ref C_NoDeed)))
     (nC_NoText : PySem.W.nsIn K mainGlobals "NoText" = some (some (.ref C_NoText)))
     (nC_NoCommand : PySem.W.nsIn K mainGlobals "NoCommand" = some (some (.ref C_NoCommand)))
     (nC_TooMany : PySem.W.nsIn K mainGlobals "TooMany" = some (some (.ref C_TooMany)))
     (nC_Table : PySem.W.nsIn K mainGlobals "Table" = some (some (.ref C_Table)))
     (pg_Table : PySem.W.plainGet K C_Table Str.empty = true)
     (hd_Table : PySem.W.hasDictIn K C_Table = true)
     (po_Table : PySem.W.plainOver K C_Table = true)
     (sa_Table : PySem.W.findIn K (.ref C_Table) "__setattr__" = some (some (.builtin "object.__setattr__")))
    {f__law_bag : Addr} {od_0 an_0 : Option Addr} {sl_0 : Array (Option Value)} {oc_0 kV_0 dc_0 pm_0 cd_0 ct_0 : Value} (a__law_bag : PySem.W.nsIn K mainGlobals "_law_bag" = some (some (.ref f__law_bag)))
     (l__law_bag : K.lookup f__law_bag = some ⟨oc_0, od_0, .func (PySem.W.fnOf "_law_bag" "_law_bag" (defArgs s__law_bag) (defBody s__law_bag) (defScope s__law_bag) .none kV_0 dc_0 pm_0 an_0 cd_0 ct_0), sl_0⟩)
     (c__law_bag : PySem.W.codeIn K cd_0 "_law_bag" = true)
     (k__law_bag : PySem.W.keepIn K (.ref f__law_bag) = true)
    {f__law_take : Addr} {od_1 an_1 : Option Addr} {sl_1 : Array (Option Value)} {oc_1 kV_1 dc_1 pm_1 cd_1 ct_1 : Value} (a__law_take : PySem.W.nsIn K mainGlobals "_law_take" = some (some (.ref f__law_take)))
     (l__law_take : K.lookup f__law_take = some ⟨oc_1, od_1, .func (PySem.W.fnOf "_law_take" "_law_take" (defArgs s__law_take) (defBody s__law_take) (defScope s__law_take) .none kV_1 dc_1 pm_1 an_1 cd_1 ct_1), sl_1⟩)
     (c__law_take : PySem.W.codeIn K cd_1 "_law_take" = true)
     (k__law_take : PySem.W.keepIn K (.ref f__law_take) = true)
    {f__law_rule : Addr} {od_2 an_2 : Option Addr} {sl_2 : Array (Option Value)} {oc_2 kV_2 dc_2 pm_2 cd_2 ct_2 : Value} (a__law_rule : PySem.W.nsIn K mainGlobals "_law_rule" = some (some (.ref f__law_rule)))
     (l__law_rule : K.lookup f__law_rule = some ⟨oc_2, od_2, .func (PySem.W.fnOf "_law_rule" "_law_rule" (defArgs s__law_rule) (defBody s__law_rule) (defScope s__law_rule) .none kV_2 dc_2 pm_2 an_2 cd_2 ct_2), sl_2⟩)
     (c__law_rule : PySem.W.codeIn K cd_2 "_law_rule" = true)
     (k__law_rule : PySem.W.keepIn K (.ref f__law_rule) = true)
    {f_NoSign___init__ : Addr} {od_3 an_3 : Option Addr} {sl_3 : Array (Option Value)} {oc_3 kV_3 dc_3 pm_3 cd_3 ct_3 : Value} (a_NoSign___init__ : PySem.W.findIn K (.ref C_NoSign) "__init__" = some (some (.ref f_NoSign___init__)))
     (l_NoSign___init__ : K.lookup f_NoSign___init__ = some ⟨oc_3, od_3, .func (PySem.W.fnOf "__init__" "NoSign.__init__" (defArgs s_NoSign___init__) (defBody s_NoSign___init__) (defScope s_NoSign___init__) .none kV_3 dc_3 pm_3 an_3 cd_3 ct_3), sl_3⟩)
     (c_NoSign___init__ : PySem.W.codeIn K cd_3 "NoSign.__init__" = true)
     (k_NoSign___init__ : PySem.W.keepIn K (.ref f_NoSign___init__) = true)
    {f_NoFold___init__ : Addr} {od_4 an_4 : Option Addr} {sl_4 : Array (Option Value)} {oc_4 kV_4 dc_4 pm_4 cd_4 ct_4 : Value} (a_NoFold___init__ : PySem.W.findIn K (.ref C_NoFold) "__init__" = some (some (.ref f_NoFold___init__)))
     (l_NoFold___init__ : K.lookup f_NoFold___init__ = some ⟨oc_4, od_4, .func (PySem.W.fnOf "__init__" "NoFold.__init__" (defArgs s_NoFold___init__) (defBody s_NoFold___init__) (defScope s_NoFold___init__) .none kV_4 dc_4 pm_4 an_4 cd_4 ct_4), sl_4⟩)
     (c_NoFold___init__ : PySem.W.codeIn K cd_4 "NoFold.__init__" = true)
     (k_NoFold___init__ : PySem.W.keepIn K (.ref f_NoFold___init__) = true)
    {f_NoMark___init__ : Addr} {od_5 an_5 : Option Addr} {sl_5 : Array (Option Value)} {oc_5 kV_5 dc_5 pm_5 cd_5 ct_5 : Value} (a_NoMark___init__ : PySem.W.findIn K (.ref C_NoMark) "__init__" = some (some (.ref f_NoMark___init__)))
     (l_NoMark___init__ : K.lookup f_NoMark___init__ = some ⟨oc_5, od_5, .func (PySem.W.fnOf "__init__" "NoMark.__init__" (defArgs s_NoMark___init__) (defBody s_NoMark___init__) (defScope s_NoMark___init__) .none kV_5 dc_5 pm_5 an_5 cd_5 ct_5), sl_5⟩)
     (c_NoMark___init__ : PySem.W.codeIn K cd_5 "NoMark.__init__" = true)
     (k_NoMark___init__ : PySem.W.keepIn K (.ref f_NoMark___init__) = true)
    {f_TooMany___init__ : Addr} {od_6 an_6 : Option Addr} {sl_6 : Array (Option Value)} {oc_6 kV_6 dc_6 pm_6 cd_6 ct_6 : Value} (a_TooMany___init__ : PySem.W.findIn K (.ref C_TooMany) "__init__" = some (some (.ref f_TooMany___init__)))
     (l_TooMany___init__ : K.lookup f_TooMany___init__ = some ⟨oc_6, od_6, .func (PySem.W.fnOf "__init__" "TooMany.__init__" (defArgs s_TooMany___init__) (defBody s_TooMany___init__) (defScope s_TooMany___init__) .none kV_6 dc_6 pm_6 an_6 cd_6 ct_6), sl_6⟩)
     (c_TooMany___init__ : PySem.W.codeIn K cd_6 "TooMany.__init__" = true)
     (k_TooMany___init__ : PySem.W.keepIn K (.ref f_TooMany___init__) = true)
    {f_is_sign : Addr} {od_7 an_7 : Option Addr} {sl_7 : Array (Option Value)} {oc_7 kV_7 dc_7 pm_7 cd_7 ct_7 : Value} (a_is_sign : PySem.W.nsIn K mainGlobals "is_sign" = some (some (.ref f_is_sign)))
     (l_is_sign : K.lookup f_is_sign = some ⟨oc_7, od_7, .func (PySem.W.fnOf "is_sign" "is_sign" (defArgs s_is_sign) (defBody s_is_sign) (defScope s_is_sign) .none kV_7 dc_7 pm_7 an_7 cd_7 ct_7), sl_7⟩)
     (c_is_sign : PySem.W.codeIn K cd_7 "is_sign" = true)
     (k_is_sign : PySem.W.keepIn K (.ref f_is_sign) = true)
    {f__is_word_up_to : Addr} {od_8 an_8 : Option Addr} {sl_8 : Array (Option Value)} {oc_8 kV_8 dc_8 pm_8 cd_8 ct_8 : Value} (a__is_word_up_to : PySem.W.nsIn K mainGlobals "_is_word_up_to" = some (some (.ref f__is_word_up_to)))
     (l__is_word_up_to : K.lookup f__is_word_up_to = some ⟨oc_8, od_8, .func (PySem.W.fnOf "_is_word_up_to" "_is_word_up_to" (defArgs s__is_word_up_to) (defBody s__is_word_up_to) (defScope s__is_word_up_to) .none kV_8 dc_8 pm_8 an_8 cd_8 ct_8), sl_8⟩)
     (c__is_word_up_to : PySem.W.codeIn K cd_8 "_is_word_up_to" = true)
     (k__is_word_up_to : PySem.W.keepIn K (.ref f__is_word_up_to) = true)
    {f__is_fold_word : Addr} {od_9 an_9 : Option Addr} {sl_9 : Array (Option Value)} {oc_9 kV_9 dc_9 pm_9 cd_9 ct_9 : Value} (a__is_fold_word : PySem.W.nsIn K mainGlobals "_is_fold_word" = some (some (.ref f__is_fold_word)))
     (l__is_fold_word : K.lookup f__is_fold_word = some ⟨oc_9, od_9, .func (PySem.W.fnOf "_is_fold_word" "_is_fold_word" (defArgs s__is_fold_word) (defBody s__is_fold_word) (defScope s__is_fold_word) .none kV_9 dc_9 pm_9 an_9 cd_9 ct_9), sl_9⟩)
     (c__is_fold_word : PySem.W.codeIn K cd_9 "_is_fold_word" = true)
     (k__is_fold_word : PySem.W.keepIn K (.ref f__is_fold_word) = true)
    {f__check_folds : Addr} {od_10 an_10 : Option Addr} {sl_10 : Array (Option Value)} {oc_10 kV_10 dc_10 pm_10 cd_10 ct_10 : Value} (a__check_folds : PySem.W.nsIn K mainGlobals "_check_folds" = some (some (.ref f__check_folds)))
     (l__check_folds : K.lookup f__check_folds = some ⟨oc_10, od_10, .func (PySem.W.fnOf "_check_folds" "_check_folds" (defArgs s__check_folds) (defBody s__check_folds) (defScope s__check_folds) .none kV_10 dc_10 pm_10 an_10 cd_10 ct_10), sl_10⟩)
     (c__check_folds : PySem.W.codeIn K cd_10 "_check_folds" = true)
     (k__check_folds : PySem.W.keepIn K (.ref f__check_folds) = true)
    {f_is_number : Addr} {od_11 an_11 : Option Addr} {sl_11 : Array (Option Value)} {oc_11 kV_11 dc_11 pm_11 cd_11 ct_11 : Value} (a_is_number : PySem.W.nsIn K mainGlobals "is_number" = some (some (.ref f_is_number)))
     (l_is_number : K.lookup f_is_number = some ⟨oc_11, od_11, .func (PySem.W.fnOf "is_number" "is_number" (defArgs s_is_number) (defBody s_is_number) (defScope s_is_number) .none kV_11 dc_11 pm_11 an_11 cd_11 ct_11), sl_11⟩)
     (c_is_number : PySem.W.codeIn K cd_11 "is_number" = true)
     (k_is_number : PySem.W.keepIn K (.ref f_is_number) = true)
    {f__is_mark_class : Addr} {od_12 an_12 : Option Addr} {sl_12 : Array (Option Value)} {oc_12 kV_12 dc_12 pm_12 cd_12 ct_12 : Value} (a__is_mark_class : PySem.W.nsIn K mainGlobals "_is_mark_class" = some (some (.ref f__is_mark_class)))
     (l__is_mark_class : K.lookup f__is_mark_class = some ⟨oc_12, od_12, .func (PySem.W.fnOf "_is_mark_class" "_is_mark_class" (defArgs s__is_mark_class) (defBody s__is_mark_class) (defScope s__is_mark_class) .none kV_12 dc_12 pm_12 an_12 cd_12 ct_12), sl_12⟩)
     (c__is_mark_class : PySem.W.codeIn K cd_12 "_is_mark_class" = true)
     (k__is_mark_class : PySem.W.keepIn K (.ref f__is_mark_class) = true)
    {f__check_marks : Addr} {od_13 an_13 : Option Addr} {sl_13 : Array (Option Value)} {oc_13 kV_13 dc_13 pm_13 cd_13 ct_13 : Value} (a__check_marks : PySem.W.nsIn K mainGlobals "_check_marks" = some (some (.ref f__check_marks)))
     (l__check_marks : K.lookup f__check_marks = some ⟨oc_13, od_13, .func (PySem.W.fnOf "_check_marks" "_check_marks" (defArgs s__check_marks) (defBody s__check_marks) (defScope s__check_marks) .none kV_13 dc_13 pm_13 an_13 cd_13 ct_13), sl_13⟩)
     (c__check_marks : PySem.W.codeIn K cd_13 "_check_marks" = true)
     (k__check_marks : PySem.W.keepIn K (.ref f__check_marks) = true)
    {f__check_sizes : Addr} {od_14 an_14 : Option Addr} {sl_14 : Array (Option Value)} {oc_14 kV_14 dc_14 pm_14 cd_14 ct_14 : Value} (a__check_sizes : PySem.W.nsIn K mainGlobals "_check_sizes" = some (some (.ref f__check_sizes)))
     (l__check_sizes : K.lookup f__check_sizes = some ⟨oc_14, od_14, .func (PySem.W.fnOf "_check_sizes" "_check_sizes" (defArgs s__check_sizes) (defBody s__check_sizes) (defScope s__check_sizes) .none kV_14 dc_14 pm_14 an_14 cd_14 ct_14), sl_14⟩)
     (c__check_sizes : PySem.W.codeIn K cd_14 "_check_sizes" = true)
     (k__check_sizes : PySem.W.keepIn K (.ref f__check_sizes) = true)
    {f_Table___init__ : Addr} {od_15 an_15 : Option Addr} {sl_15 : Array (Option Value)} {oc_15 kV_15 dc_15 pm_15 cd_15 ct_15 : Value} (a_Table___init__ : PySem.W.findIn K (.ref C_Table) "__init__" = some (some (.ref f_Table___init__)))
     (l_Table___init__ : K.lookup f_Table___init__ = some ⟨oc_15, od_15, .func (PySem.W.fnOf "__init__" "Table.__init__" (defArgs s_Table___init__) (defBody s_Table___init__) (defScope s_Table___init__) .none kV_15 dc_15 pm_15 an_15 cd_15 ct_15), sl_15⟩)
     (c_Table___init__ : PySem.W.codeIn K cd_15 "Table.__init__" = true)
     (k_Table___init__ : PySem.W.keepIn K (.ref f_Table___init__) = true)
    {f_NoWord___init__ : Addr} {od_16 an_16 : Option Addr} {sl_16 : Array (Option Value)} {oc_16 kV_16 dc_16 pm_16 cd_16 ct_16 : Value} (a_NoWord___init__ : PySem.W.findIn K (.ref C_NoWord) "__init__" = some (some (.ref f_NoWord___init__)))
     (l_NoWord___init__ : K.lookup f_NoWord___init__ = some ⟨oc_16, od_16, .func (PySem.W.fnOf "__init__" "NoWord.__init__" (defArgs s_NoWord___init__) (defBody s_NoWord___init__) (defScope s_NoWord___init__) .none kV_16 dc_16 pm_16 an_16 cd_16 ct_16), sl_16⟩)
     (c_NoWord___init__ : PySem.W.codeIn K cd_16 "NoWord.__init__" = true)
     (k_NoWord___init__ : PySem.W.keepIn K (.ref f_NoWord___init__) = true)
    {f_NoDeed___init__ : Addr} {od_17 an_17 : Option Addr} {sl_17 : Array (Option Value)} {oc_17 kV_17 dc_17 pm_17 cd_17 ct_17 : Value} (a_NoDeed___init__ : PySem.W.findIn K (.ref C_NoDeed) "__init__" = some (some (.ref f_NoDeed___init__)))
     (l_NoDeed___init__ : K.lookup f_NoDeed___init__ = some ⟨oc_17, od_17, .func (PySem.W.fnOf "__init__" "NoDeed.__init__" (defArgs s_NoDeed___init__) (defBody s_NoDeed___init__) (defScope s_NoDeed___init__) .none kV_17 dc_17 pm_17 an_17 cd_17 ct_17), sl_17⟩)
     (c_NoDeed___init__ : PySem.W.codeIn K cd_17 "NoDeed.__init__" = true)
     (k_NoDeed___init__ : PySem.W.keepIn K (.ref f_NoDeed___init__) = true)
    {f_NoPath___init__ : Addr} {od_18 an_18 : Option Addr} {sl_18 : Array (Option Value)} {oc_18 kV_18 dc_18 pm_18 cd_18 ct_18 : Value} (a_NoPath___init__ : PySem.W.findIn K (.ref C_NoPath) "__init__" = some (some (.ref f_NoPath___init__)))
     (l_NoPath___init__ : K.lookup f_NoPath___init__ = some ⟨oc_18, od_18, .func (PySem.W.fnOf "__init__" "NoPath.__init__" (defArgs s_NoPath___init__) (defBody s_NoPath___init__) (defScope s_NoPath___init__) .none kV_18 dc_18 pm_18 an_18 cd_18 ct_18), sl_18⟩)
     (c_NoPath___init__ : PySem.W.codeIn K cd_18 "NoPath.__init__" = true)
     (k_NoPath___init__ : PySem.W.keepIn K (.ref f_NoPath___init__) = true)
    {f_NoText___init__ : Addr} {od_19 an_19 : Option Addr} {sl_19 : Array (Option Value)} {oc_19 kV_19 dc_19 pm_19 cd_19 ct_19 : Value} (a_NoText___init__ : PySem.W.findIn K (.ref C_NoText) "__init__" = some (some (.ref f_NoText___init__)))
     (l_NoText___init__ : K.lookup f_NoText___init__ = some ⟨oc_19, od_19, .func (PySem.W.fnOf "__init__" "NoText.__init__" (defArgs s_NoText___init__) (defBody s_NoText___init__) (defScope s_NoText___init__) .none kV_19 dc_19 pm_19 an_19 cd_19 ct_19), sl_19⟩)
     (c_NoText___init__ : PySem.W.codeIn K cd_19 "NoText.__init__" = true)
     (k_NoText___init__ : PySem.W.keepIn K (.ref f_NoText___init__) = true)
    {f__law_alone : Addr} {od_20 an_20 : Option Addr} {sl_20 : Array (Option Value)} {oc_20 kV_20 dc_20 pm_20 cd_20 ct_20 : Value} (a__law_alone : PySem.W.nsIn K mainGlobals "_law_alone" = some (some (.ref f__law_alone)))
     (l__law_alone : K.lookup f__law_alone = some ⟨oc_20, od_20, .func (PySem.W.fnOf "_law_alone" "_law_alone" (defArgs s__law_alone) (defBody s__law_alone) (defScope s__law_alone) .none kV_20 dc_20 pm_20 an_20 cd_20 ct_20), sl_20⟩)
     (c__law_alone : PySem.W.codeIn K cd_20 "_law_alone" = true)
     (k__law_alone : PySem.W.keepIn K (.ref f__law_alone) = true)
    {f__law_error : Addr} {od_21 an_21 : Option Addr} {sl_21 : Array (Option Value)} {oc_21 kV_21 dc_21 pm_21 cd_21 ct_21 : Value} (a__law_error : PySem.W.nsIn K mainGlobals "_law_error" = some (some (.ref f__law_error)))
     (l__law_error : K.lookup f__law_error = some ⟨oc_21, od_21, .func (PySem.W.fnOf "_law_error" "_law_error" (defArgs s__law_error) (defBody s__law_error) (defScope s__law_error) .none kV_21 dc_21 pm_21 an_21 cd_21 ct_21), sl_21⟩)
     (c__law_error : PySem.W.codeIn K cd_21 "_law_error" = true)
     (k__law_error : PySem.W.keepIn K (.ref f__law_error) = true)
    {f__law_bent : Addr} {od_22 an_22 : Option Addr} {sl_22 : Array (Option Value)} {oc_22 kV_22 dc_22 pm_22 cd_22 ct_22 : Value} (a__law_bent : PySem.W.nsIn K mainGlobals "_law_bent" = some (some (.ref f__law_bent)))
     (l__law_bent : K.lookup f__law_bent = some ⟨oc_22, od_22, .func (PySem.W.fnOf "_law_bent" "_law_bent" (defArgs s__law_bent) (defBody s__law_bent) (defScope s__law_bent) .none kV_22 dc_22 pm_22 an_22 cd_22 ct_22), sl_22⟩)
     (c__law_bent : PySem.W.codeIn K cd_22 "_law_bent" = true)
     (k__law_bent : PySem.W.keepIn K (.ref f__law_bent) = true)
    {f__law_is_sign : Addr} {od_23 an_23 : Option Addr} {sl_23 : Array (Option Value)} {oc_23 kV_23 dc_23 pm_23 cd_23 ct_23 : Value} (a__law_is_sign : PySem.W.nsIn K mainGlobals "_law_is_sign" = some (some (.ref f__law_is_sign)))
     (l__law_is_sign : K.lookup f__law_is_sign = some ⟨oc_23, od_23, .func (PySem.W.fnOf "_law_is_sign" "_law_is_sign" (defArgs s__law_is_sign) (defBody s__law_is_sign) (defScope s__law_is_sign) .none kV_23 dc_23 pm_23 an_23 cd_23 ct_23), sl_23⟩)
     (c__law_is_sign : PySem.W.codeIn K cd_23 "_law_is_sign" = true)
     (k__law_is_sign : PySem.W.keepIn K (.ref f__law_is_sign) = true)
    {f__law_due : Addr} {od_24 an_24 : Option Addr} {sl_24 : Array (Option Value)} {oc_24 kV_24 dc_24 pm_24 cd_24 ct_24 : Value} (a__law_due : PySem.W.nsIn K mainGlobals "_law_due" = some (some (.ref f__law_due)))
     (l__law_due : K.lookup f__law_due = some ⟨oc_24, od_24, .func (PySem.W.fnOf "_law_due" "_law_due" (defArgs s__law_due) (defBody s__law_due) (defScope s__law_due) .none kV_24 dc_24 pm_24 an_24 cd_24 ct_24), sl_24⟩)
     (c__law_due : PySem.W.codeIn K cd_24 "_law_due" = true)
     (k__law_due : PySem.W.keepIn K (.ref f__law_due) = true)
    {f__law_turned : Addr} {od_25 an_25 : Option Addr} {sl_25 : Array (Option Value)} {oc_25 kV_25 dc_25 pm_25 cd_25 ct_25 : Value} (a__law_turned : PySem.W.nsIn K mainGlobals "_law_turned" = some (some (.ref f__law_turned)))
     (l__law_turned : K.lookup f__law_turned = some ⟨oc_25, od_25, .func (PySem.W.fnOf "_law_turned" "_law_turned" (defArgs s__law_turned) (defBody s__law_turned) (defScope s__law_turned) .none kV_25 dc_25 pm_25 an_25 cd_25 ct_25), sl_25⟩)
     (c__law_turned : PySem.W.codeIn K cd_25 "_law_turned" = true)
     (k__law_turned : PySem.W.keepIn K (.ref f__law_turned) = true)
    {f_law : Addr} {od_26 an_26 : Option Addr} {sl_26 : Array (Option Value)} {oc_26 kV_26 dc_26 pm_26 cd_26 ct_26 : Value} (a_law : PySem.W.nsIn K mainGlobals "law" = some (some (.ref f_law)))
     (l_law : K.lookup f_law = some ⟨oc_26, od_26, .func (PySem.W.fnOf "law" "law" (defArgs s_law) (defBody s_law) (defScope s_law) .none kV_26 dc_26 pm_26 an_26 cd_26 ct_26), sl_26⟩)
     (c_law : PySem.W.codeIn K cd_26 "law" = true)
     (k_law : PySem.W.keepIn K (.ref f_law) = true)
     (z_OverflowError : PySem.W.nsIn K mainGlobals "OverflowError" = some none)
     (z_ValueError : PySem.W.nsIn K mainGlobals "ValueError" = some none)
     (z_abs : PySem.W.nsIn K mainGlobals "abs" = some none)
     (z_all : PySem.W.nsIn K mainGlobals "all" = some none)
     (z_any : PySem.W.nsIn K mainGlobals "any" = some none)
     (z_bool : PySem.W.nsIn K mainGlobals "bool" = some none)
     (z_dict : PySem.W.nsIn K mainGlobals "dict" = some none)
     (z_int : PySem.W.nsIn K mainGlobals "int" = some none)
     (z_isinstance : PySem.W.nsIn K mainGlobals "isinstance" = some none)
     (z_len : PySem.W.nsIn K mainGlobals "len" = some none)
     (z_list : PySem.W.nsIn K mainGlobals "list" = some none)
     (z_max : PySem.W.nsIn K mainGlobals "max" = some none)
     (z_min : PySem.W.nsIn K mainGlobals "min" = some none)
     (z_range : PySem.W.nsIn K mainGlobals "range" = some none)
     (z_repr : PySem.W.nsIn K mainGlobals "repr" = some none)
     (z_sorted : PySem.W.nsIn K mainGlobals "sorted" = some none)
     (z_str : PySem.W.nsIn K mainGlobals "str" = some none)
    {t_SIGNS : Tok} (g_SIGNS : PySem.W.nsIn K mainGlobals "SIGNS" = some (some (.str "abcdefghijklmnopqrstuvwxyzABCDEFGHIJKLMNOPQRSTUVWXYZ0123456789'-.:^_~" t_SIGNS)))
    {t_LONGEST_FOLD : Tok} (g_LONGEST_FOLD : PySem.W.nsIn K mainGlobals "LONGEST_FOLD" = some (some (.int 3 t_LONGEST_FOLD)))
     (g_MARK_CLASSES : PySem.W.nsIn K mainGlobals "MARK_CLASSES" = some (some (.ref K_MARK_CLASSES)))
    {dd_MARK_CLASSES : Option Addr} {tMARK_CLASSES_0 tMARK_CLASSES_1 tMARK_CLASSES_2 : Tok} {nn_MARK_CLASSES : Nat} {sl_MARK_CLASSES : Array (Option Value)} (kl_MARK_CLASSES : K.lookup K_MARK_CLASSES = some ⟨.type "tuple", dd_MARK_CLASSES, .seq ([.int 1 tMARK_CLASSES_0, .int 2 tMARK_CLASSES_1, .int 3 tMARK_CLASSES_2] : List Value).toArray nn_MARK_CLASSES, sl_MARK_CLASSES⟩)
    {t_MOST_FOLDS : Tok} (g_MOST_FOLDS : PySem.W.nsIn K mainGlobals "MOST_FOLDS" = some (some (.int 40 t_MOST_FOLDS)))
    {t_MOST_MARKS : Tok} (g_MOST_MARKS : PySem.W.nsIn K mainGlobals "MOST_MARKS" = some (some (.int 8 t_MOST_MARKS)))
    {q_NoCommand : Str} {N_NoCommand : Addr} {bs_NoCommand : List Value} {sn_NoCommand : List Str} {sub_NoCommand : List Value} {ab_NoCommand : Bool} {col_NoCommand : Option Bool} {xd_NoCommand : Option Addr} {m0_NoCommand m1_NoCommand m2_NoCommand m3_NoCommand m5_NoCommand : Option Value} (xL_NoCommand : K.lookup C_NoCommand = some (excClassObj "NoCommand" q_NoCommand C_NoCommand N_NoCommand bs_NoCommand (Eb.up .value) true sn_NoCommand sub_NoCommand ab_NoCommand col_NoCommand xd_NoCommand m0_NoCommand m1_NoCommand m2_NoCommand m3_NoCommand m5_NoCommand (Eb.nw .value)))
     (wsa_NoCommand : PySem.W.findIn K (.ref C_NoCommand) "__setattr__" = some (some (.builtin "object.__setattr__")))
     (wbe_NoCommand : PySem.W.subIn K (.ref C_NoCommand) (.type "BaseException") = some true)
     (wty_NoCommand : PySem.W.typeIn K (.ref C_NoCommand) = some (.type "type"))
     (wkp_NoCommand : PySem.W.keepIn K (.ref C_NoCommand) = true)
    {q_NoDeed : Str} {N_NoDeed : Addr} {bs_NoDeed : List Value} {sn_NoDeed : List Str} {sub_NoDeed : List Value} {ab_NoDeed : Bool} {col_NoDeed : Option Bool} {xd_NoDeed : Option Addr} {m0_NoDeed m1_NoDeed m2_NoDeed m3_NoDeed m5_NoDeed : Option Value} (xL_NoDeed : K.lookup C_NoDeed = some (excClassObj "NoDeed" q_NoDeed C_NoDeed N_NoDeed bs_NoDeed (Eb.up .value) true sn_NoDeed sub_NoDeed ab_NoDeed col_NoDeed xd_NoDeed m0_NoDeed m1_NoDeed m2_NoDeed m3_NoDeed m5_NoDeed (Eb.nw .value)))
     (wsa_NoDeed : PySem.W.findIn K (.ref C_NoDeed) "__setattr__" = some (some (.builtin "object.__setattr__")))
     (wbe_NoDeed : PySem.W.subIn K (.ref C_NoDeed) (.type "BaseException") = some true)
     (wty_NoDeed : PySem.W.typeIn K (.ref C_NoDeed) = some (.type "type"))
     (wkp_NoDeed : PySem.W.keepIn K (.ref C_NoDeed) = true)
    {q_NoFold : Str} {N_NoFold : Addr} {bs_NoFold : List Value} {sn_NoFold : List Str} {sub_NoFold : List Value} {ab_NoFold : Bool} {col_NoFold : Option Bool} {xd_NoFold : Option Addr} {m0_NoFold m1_NoFold m2_NoFold m3_NoFold m5_NoFold : Option Value} (xL_NoFold : K.lookup C_NoFold = some (excClassObj "NoFold" q_NoFold C_NoFold N_NoFold bs_NoFold (Eb.up .value) true sn_NoFold sub_NoFold ab_NoFold col_NoFold xd_NoFold m0_NoFold m1_NoFold m2_NoFold m3_NoFold m5_NoFold (Eb.nw .value)))
     (wsa_NoFold : PySem.W.findIn K (.ref C_NoFold) "__setattr__" = some (some (.builtin "object.__setattr__")))
     (wbe_NoFold : PySem.W.subIn K (.ref C_NoFold) (.type "BaseException") = some true)
     (wty_NoFold : PySem.W.typeIn K (.ref C_NoFold) = some (.type "type"))
     (wkp_NoFold : PySem.W.keepIn K (.ref C_NoFold) = true)
    {q_NoMark : Str} {N_NoMark : Addr} {bs_NoMark : List Value} {sn_NoMark : List Str} {sub_NoMark : List Value} {ab_NoMark : Bool} {col_NoMark : Option Bool} {xd_NoMark : Option Addr} {m0_NoMark m1_NoMark m2_NoMark m3_NoMark m5_NoMark : Option Value} (xL_NoMark : K.lookup C_NoMark = some (excClassObj "NoMark" q_NoMark C_NoMark N_NoMark bs_NoMark (Eb.up .value) true sn_NoMark sub_NoMark ab_NoMark col_NoMark xd_NoMark m0_NoMark m1_NoMark m2_NoMark m3_NoMark m5_NoMark (Eb.nw .value)))
     (wsa_NoMark : PySem.W.findIn K (.ref C_NoMark) "__setattr__" = some (some (.builtin "object.__setattr__")))
     (wbe_NoMark : PySem.W.subIn K (.ref C_NoMark) (.type "BaseException") = some true)
     (wty_NoMark : PySem.W.typeIn K (.ref C_NoMark) = some (.type "type"))
     (wkp_NoMark : PySem.W.keepIn K (.ref C_NoMark) = true)
    {q_NoPath : Str} {N_NoPath : Addr} {bs_NoPath : List Value} {sn_NoPath : List Str} {sub_NoPath : List Value} {ab_NoPath : Bool} {col_NoPath : Option Bool} {xd_NoPath : Option Addr} {m0_NoPath m1_NoPath m2_NoPath m3_NoPath m5_NoPath : Option Value} (xL_NoPath : K.lookup C_NoPath = some (excClassObj "NoPath" q_NoPath C_NoPath N_NoPath bs_NoPath (Eb.up .value) true sn_NoPath sub_NoPath ab_NoPath col_NoPath xd_NoPath m0_NoPath m1_NoPath m2_NoPath m3_NoPath m5_NoPath (Eb.nw .value)))
     (wsa_NoPath : PySem.W.findIn K (.ref C_NoPath) "__setattr__" = some (some (.builtin "object.__setattr__")))
     (wbe_NoPath : PySem.W.subIn K (.ref C_NoPath) (.type "BaseException") = some true)
     (wty_NoPath : PySem.W.typeIn K (.ref C_NoPath) = some (.type "type"))
     (wkp_NoPath : PySem.W.keepIn K (.ref C_NoPath) = true)
    {q_NoSign : Str} {N_NoSign : Addr} {bs_NoSign : List Value} {sn_NoSign : List Str} {sub_NoSign : List Value} {ab_NoSign : Bool} {col_NoSign : Option Bool} {xd_NoSign : Option Addr} {m0_NoSign m1_NoSign m2_NoSign m3_NoSign m5_NoSign : Option Value} (xL_NoSign : K.lookup C_NoSign = some (excClassObj "NoSign" q_NoSign C_NoSign N_NoSign bs_NoSign (Eb.up .value) true sn_NoSign sub_NoSign ab_NoSign col_NoSign xd_NoSign m0_NoSign m1_NoSign m2_NoSign m3_NoSign m5_NoSign (Eb.nw .value)))
     (wsa_NoSign : PySem.W.findIn K (.ref C_NoSign) "__setattr__" = some (some (.builtin "object.__setattr__")))
     (wbe_NoSign : PySem.W.subIn K (.ref C_NoSign) (.type "BaseException") = some true)
     (wty_NoSign : PySem.W.typeIn K (.ref C_NoSign) = some (.type "type"))
     (wkp_NoSign : PySem.W.keepIn K (.ref C_NoSign) = true)
    {q_NoText : Str} {N_NoText : Addr} {bs_NoText : List Value} {sn_NoText : List Str} {sub_NoText : List Value} {ab_NoText : Bool} {col_NoText : Option Bool} {xd_NoText : Option Addr} {m0_NoText m1_NoText m2_NoText m3_NoText m5_NoText : Option Value} (xL_NoText : K.lookup C_NoText = some (excClassObj "NoText" q_NoText C_NoText N_NoText bs_NoText (Eb.up .value) true sn_NoText sub_NoText ab_NoText col_NoText xd_NoText m0_NoText m1_NoText m2_NoText m3_NoText m5_NoText (Eb.nw .value)))
     (wsa_NoText : PySem.W.findIn K (.ref C_NoText) "__setattr__" = some (some (.builtin "object.__setattr__")))
     (wbe_NoText : PySem.W.subIn K (.ref C_NoText) (.type "BaseException") = some true)
     (wty_NoText : PySem.W.typeIn K (.ref C_NoText) = some (.type "type"))
     (wkp_NoText : PySem.W.keepIn K (.ref C_NoText) = true)
    {q_NoWord : Str} {N_NoWord : Addr} {bs_NoWord : List Value} {sn_NoWord : List Str} {sub_NoWord : List Value} {ab_NoWord : Bool} {col_NoWord : Option Bool} {xd_NoWord : Option Addr} {m0_NoWord m1_NoWord m2_NoWord m3_NoWord m5_NoWord : Option Value} (xL_NoWord : K.lookup C_NoWord = some (excClassObj "NoWord" q_NoWord C_NoWord N_NoWord bs_NoWord (Eb.up .value) true sn_NoWord sub_NoWord ab_NoWord col_NoWord xd_NoWord m0_NoWord m1_NoWord m2_NoWord m3_NoWord m5_NoWord (Eb.nw .value)))
     (wsa_NoWord : PySem.W.findIn K (.ref C_NoWord) "__setattr__" = some (some (.builtin "object.__setattr__")))
     (wbe_NoWord : PySem.W.subIn K (.ref C_NoWord) (.type "BaseException") = some true)
     (wty_NoWord : PySem.W.typeIn K (.ref C_NoWord) = some (.type "type"))
     (wkp_NoWord : PySem.W.keepIn K (.ref C_NoWord) = true)
    {q_TooMany : Str} {N_TooMany : Addr} {bs_TooMany : List Value} {sn_TooMany : List Str} {sub_TooMany : List Value} {ab_TooMany : Bool} {col_TooMany : Option Bool} {xd_TooMany : Option Addr} {m0_TooMany m1_TooMany m2_TooMany m3_TooMany m5_TooMany : Option Value} (xL_TooMany : K.lookup C_TooMany = some (excClassObj "TooMany" q_TooMany C_TooMany N_TooMany bs_TooMany (Eb.up .overflow) true sn_TooMany sub_TooMany ab_TooMany col_TooMany xd_TooMany m0_TooMany m1_TooMany m2_TooMany m3_TooMany m5_TooMany (Eb.nw .overflow)))
     (wsa_TooMany : PySem.W.findIn K (.ref C_TooMany) "__setattr__" = some (some (.builtin "object.__setattr__")))
     (wbe_TooMany : PySem.W.subIn K (.ref C_TooMany) (.type "BaseException") = some true)
     (wty_TooMany : PySem.W.typeIn K (.ref C_TooMany) = some (.type "type"))
     (wkp_TooMany : PySem.W.keepIn K (.ref C_TooMany) = true)
     (wga_NoCommand : PySem.W.findIn K (.ref C_NoCommand) "__getattribute__" = some (some (.builtin "BaseException.__getattribute__")))
     (wgg_NoCommand : PySem.W.findIn K (.ref C_NoCommand) "__getattr__" = some none)
     (wca_NoCommand : PySem.W.findIn K (.ref C_NoCommand) "__class__" = some (some (.builtin "object.__class__")))
     (wcg : PySem.W.specialIn K (.builtin "object.__class__") "__get__" = some (some (.builtin "getset_descriptor.__get__")))
     (wct : PySem.W.takesIn K (.builtin "object.__class__") = some true)
     (wga_NoDeed : PySem.W.findIn K (.ref C_NoDeed) "__getattribute__" = some (some (.builtin "BaseException.__getattribute__")))
     (wgg_NoDeed : PySem.W.findIn K (.ref C_NoDeed) "__getattr__" = some none)
     (wca_NoDeed : PySem.W.findIn K (.ref C_NoDeed) "__class__" = some (some (.builtin "object.__class__")))
     (wga_NoFold : PySem.W.findIn K (.ref C_NoFold) "__getattribute__" = some (some (.builtin "BaseException.__getattribute__")))
     (wgg_NoFold : PySem.W.findIn K (.ref C_NoFold) "__getattr__" = some none)
     (wca_NoFold : PySem.W.findIn K (.ref C_NoFold) "__class__" = some (some (.builtin "object.__class__")))
     (wga_NoMark : PySem.W.findIn K (.ref C_NoMark) "__getattribute__" = some (some (.builtin "BaseException.__getattribute__")))
     (wgg_NoMark : PySem.W.findIn K (.ref C_NoMark) "__getattr__" = some none)
     (wca_NoMark : PySem.W.findIn K (.ref C_NoMark) "__class__" = some (some (.builtin "object.__class__")))
     (wga_NoPath : PySem.W.findIn K (.ref C_NoPath) "__getattribute__" = some (some (.builtin "BaseException.__getattribute__")))
     (wgg_NoPath : PySem.W.findIn K (.ref C_NoPath) "__getattr__" = some none)
     (wca_NoPath : PySem.W.findIn K (.ref C_NoPath) "__class__" = some (some (.builtin "object.__class__")))
     (wga_NoSign : PySem.W.findIn K (.ref C_NoSign) "__getattribute__" = some (some (.builtin "BaseException.__getattribute__")))
     (wgg_NoSign : PySem.W.findIn K (.ref C_NoSign) "__getattr__" = some none)
     (wca_NoSign : PySem.W.findIn K (.ref C_NoSign) "__class__" = some (some (.builtin "object.__class__")))
     (wga_NoText : PySem.W.findIn K (.ref C_NoText) "__getattribute__" = some (some (.builtin "BaseException.__getattribute__")))
     (wgg_NoText : PySem.W.findIn K (.ref C_NoText) "__getattr__" = some none)
     (wca_NoText : PySem.W.findIn K (.ref C_NoText) "__class__" = some (some (.builtin "object.__class__")))
     (wga_NoWord : PySem.W.findIn K (.ref C_NoWord) "__getattribute__" = some (some (.builtin "BaseException.__getattribute__")))
     (wgg_NoWord : PySem.W.findIn K (.ref C_NoWord) "__getattr__" = some none)
     (wca_NoWord : PySem.W.findIn K (.ref C_NoWord) "__class__" = some (some (.builtin "object.__class__")))
     (wga_TooMany : PySem.W.findIn K (.ref C_TooMany) "__getattribute__" = some (some (.builtin "BaseException.__getattribute__")))
     (wgg_TooMany : PySem.W.findIn K (.ref C_TooMany) "__getattr__" = some none)
     (wca_TooMany : PySem.W.findIn K (.ref C_TooMany) "__class__" = some (some (.builtin "object.__class__")))
     (wic_TooMany : PySem.W.isClsIn K C_TooMany = true)
     (wmo_TooMany : PySem.W.mroIn K C_TooMany (.type "object") = some true)
     (no_Table__folds : PySem.W.findIn K (.ref C_Table) "_folds" = some none)
     (no_Table__marks : PySem.W.findIn K (.ref C_Table) "_marks" = some none)
     (wki_TooMany_OverflowError : PySem.W.subIn K (.ref C_TooMany) (.type "OverflowError") = some true)
     (wki_TooMany_ValueError : PySem.W.subIn K (.ref C_TooMany) (.type "ValueError") = some false)
     (mk_Table : PySem.W.makesIn K C_Table = true)
     (fni_Table : PySem.W.isFn K (.ref f_Table___init__) = true)
     (kpc_Table : PySem.W.keepIn K (.ref C_Table) = true)
     (nf_NoDeed_at : PySem.W.findIn K (.ref C_NoDeed) "at" = some none)
     (nf_NoFold_sign : PySem.W.findIn K (.ref C_NoFold) "sign" = some none)
     (nf_NoMark_sign : PySem.W.findIn K (.ref C_NoMark) "sign" = some none)
     (nf_NoPath_path : PySem.W.findIn K (.ref C_NoPath) "path" = some none)
     (nf_NoSign_sign : PySem.W.findIn K (.ref C_NoSign) "sign" = some none)
     (nf_NoText_index : PySem.W.findIn K (.ref C_NoText) "index" = some none)
     (nf_NoWord_word : PySem.W.findIn K (.ref C_NoWord) "word" = some none)
     (nf_TooMany_limit : PySem.W.findIn K (.ref C_TooMany) "limit" = some none)
     (ti_NoFold : PySem.W.typeIn K (.ref f_NoFold___init__) = some (.type "function"))
     (ti_NoMark : PySem.W.typeIn K (.ref f_NoMark___init__) = some (.type "function"))
     (ti_NoSign : PySem.W.typeIn K (.ref f_NoSign___init__) = some (.type "function"))
     (ti_TooMany : PySem.W.typeIn K (.ref f_TooMany___init__) = some (.type "function"))
     (whd_NoFold : PySem.W.hasDictIn K C_NoFold = true)
     (whd_NoMark : PySem.W.hasDictIn K C_NoMark = true)
     (whd_NoSign : PySem.W.hasDictIn K C_NoSign = true)
     (whd_TooMany : PySem.W.hasDictIn K C_TooMany = true)
     (himp : importsNone q = true)
    (hlaw : ∀ ns : List Int, ns.length ≤ 63 → ∃ st, q_law [.lsk (ns.map fun i => .v (.int i))] [] = some (.ok (.v (.bl true)) st))
    : ∃ (fd : FuncData) (cs : List (Addr × Addr)) (sp : Sp), Css K mg h cs ∧ (∀ (s : Shared) (v : Value), BindsTo s fd ⟨[v], []⟩ [("_law_script", v)]) ∧ (∀ (H : Hp) (a : Addr) (ns : List Int), ns.length ≤ 63 → (∀ p ∈ cs, H p.2 = some (.tbl #[])) → SqL K H a (ns.map V.int) → sp [.ref a] H (fun v _ => v = .bl true) fun _ _ _ => False) ∧ ∀ base : Heap, K.In base → base.Ns mainGlobals mg → (∀ p ∈ cs, LamX.TabB base mg p.1 p.2) → (importsNone q = true → SysM base) → FnG l.prog w K mg base CX0 8 fa fd ["_law_script"] sp := by
  have fa_ := fa
  have e := hfa.symm.trans (PySem.W.mg_of X G a_law)
  cases e
  have mgo := fun {x : Str} {v : Value} (z : PySem.W.nsIn K mainGlobals x = some (some v)) => PySem.W.mg_of X G z
  let A : Ad := ⟨fa_, C_NoSign, C_NoFold, C_NoMark, C_NoWord, C_NoPath, C_NoDeed, C_NoText, C_NoCommand, C_TooMany, C_Table, f_NoSign___init__, f_NoFold___init__, f_NoMark___init__, f_TooMany___init__, f_Table___init__, f_NoWord___init__, f_NoDeed___init__, f_NoPath___init__, f_NoText___init__, K_MARK_CLASSES⟩
  have T : Txt K mg A := {
    b_OverflowError := PySem.W.mg_none_of X G z_OverflowError,
    b_ValueError := PySem.W.mg_none_of X G z_ValueError,
    b_abs := PySem.W.mg_none_of X G z_abs,
    b_all := PySem.W.mg_none_of X G z_all,
    b_any := PySem.W.mg_none_of X G z_any,
    b_bool := PySem.W.mg_none_of X G z_bool,
    b_dict := PySem.W.mg_none_of X G z_dict,
    b_int := PySem.W.mg_none_of X G z_int,
    b_isinstance := PySem.W.mg_none_of X G z_isinstance,
    b_len := PySem.W.mg_none_of X G z_len,
    b_list := PySem.W.mg_none_of X G z_list,
    b_max := PySem.W.mg_none_of X G z_max,
    b_min := PySem.W.mg_none_of X G z_min,
    b_range := PySem.W.mg_none_of X G z_range,
    b_repr := PySem.W.mg_none_of X G z_repr,
    b_sorted := PySem.W.mg_none_of X G z_sorted,
    b_str := PySem.W.mg_none_of X G z_str,
    c_SIGNS := ⟨_, mgo g_SIGNS, ⟨t_SIGNS, rfl⟩⟩,
    c_LONGEST_FOLD := ⟨_, mgo g_LONGEST_FOLD, ⟨t_LONGEST_FOLD, rfl⟩⟩,
    c_MARK_CLASSES := ⟨_, mgo g_MARK_CLASSES, rfl⟩,
    k_MARK_CLASSES := fun F φ => .tpk (xs := [.int 1, .int 2, .int 3]) (.inr ⟨_, _, _, kl_MARK_CLASSES, rfl, rfl, (by show 3 ≤ sizeLine; decide), (.cons ⟨_, rfl⟩ (.cons ⟨_, rfl⟩ (.cons ⟨_, rfl⟩ .nil)))⟩) (.cons (.v _) (.cons (.v _) (.cons (.v _) .nil))),
    c_MOST_FOLDS := ⟨_, mgo g_MOST_FOLDS, ⟨t_MOST_FOLDS, rfl⟩⟩,
    c_MOST_MARKS := ⟨_, mgo g_MOST_MARKS, ⟨t_MOST_MARKS, rfl⟩⟩,
    er_NoCommand := ⟨⟨_, _, _, _, _, _, _, _, _, _, _, _, _, xL_NoCommand⟩, wsa_NoCommand, wbe_NoCommand, wty_NoCommand, wkp_NoCommand⟩,
    er_NoDeed := ⟨⟨_, _, _, _, _, _, _, _, _, _, _, _, _, xL_NoDeed⟩, wsa_NoDeed, wbe_NoDeed, wty_NoDeed, wkp_NoDeed⟩,
    er_NoFold := ⟨⟨_, _, _, _, _, _, _, _, _, _, _, _, _, xL_NoFold⟩, wsa_NoFold, wbe_NoFold, wty_NoFold, wkp_NoFold⟩,
    er_NoMark := ⟨⟨_, _, _, _, _, _, _, _, _, _, _, _, _, xL_NoMark⟩, wsa_NoMark, wbe_NoMark, wty_NoMark, wkp_NoMark⟩,
    er_NoPath := ⟨⟨_, _, _, _, _, _, _, _, _, _, _, _, _, xL_NoPath⟩, wsa_NoPath, wbe_NoPath, wty_NoPath, wkp_NoPath⟩,
    er_NoSign := ⟨⟨_, _, _, _, _, _, _, _, _, _, _, _, _, xL_NoSign⟩, wsa_NoSign, wbe_NoSign, wty_NoSign, wkp_NoSign⟩,
    er_NoText := ⟨⟨_, _, _, _, _, _, _, _, _, _, _, _, _, xL_NoText⟩, wsa_NoText, wbe_NoText, wty_NoText, wkp_NoText⟩,
    er_NoWord := ⟨⟨_, _, _, _, _, _, _, _, _, _, _, _, _, xL_NoWord⟩, wsa_NoWord, wbe_NoWord, wty_NoWord, wkp_NoWord⟩,
    er_TooMany := ⟨⟨_, _, _, _, _, _, _, _, _, _, _, _, _, xL_TooMany⟩, wsa_TooMany, wbe_TooMany, wty_TooMany, wkp_TooMany⟩,
    ev_NoCommand := ⟨⟨⟨_, _, _, _, _, _, _, _, _, _, _, _, _, xL_NoCommand⟩, wsa_NoCommand, wbe_NoCommand, wty_NoCommand, wkp_NoCommand⟩, wga_NoCommand, wgg_NoCommand, wca_NoCommand, wcg, wct⟩,
    ev_NoDeed := ⟨⟨⟨_, _, _, _, _, _, _, _, _, _, _, _, _, xL_NoDeed⟩, wsa_NoDeed, wbe_NoDeed, wty_NoDeed, wkp_NoDeed⟩, wga_NoDeed, wgg_NoDeed, wca_NoDeed, wcg, wct⟩,
    ev_NoFold := ⟨⟨⟨_, _, _, _, _, _, _, _, _, _, _, _, _, xL_NoFold⟩, wsa_NoFold, wbe_NoFold, wty_NoFold, wkp_NoFold⟩, wga_NoFold, wgg_NoFold, wca_NoFold, wcg, wct⟩,
    ev_NoMark := ⟨⟨⟨_, _, _, _, _, _, _, _, _, _, _, _, _, xL_NoMark⟩, wsa_NoMark, wbe_NoMark, wty_NoMark, wkp_NoMark⟩, wga_NoMark, wgg_NoMark, wca_NoMark, wcg, wct⟩,
    ev_NoPath := ⟨⟨⟨_, _, _, _, _, _, _, _, _, _, _, _, _, xL_NoPath⟩, wsa_NoPath, wbe_NoPath, wty_NoPath, wkp_NoPath⟩, wga_NoPath, wgg_NoPath, wca_NoPath, wcg, wct⟩,
    ev_NoSign := ⟨⟨⟨_, _, _, _, _, _, _, _, _, _, _, _, _, xL_NoSign⟩, wsa_NoSign, wbe_NoSign, wty_NoSign, wkp_NoSign⟩, wga_NoSign, wgg_NoSign, wca_NoSign, wcg, wct⟩,
    ev_NoText := ⟨⟨⟨_, _, _, _, _, _, _, _, _, _, _, _, _, xL_NoText⟩, wsa_NoText, wbe_NoText, wty_NoText, wkp_NoText⟩, wga_NoText, wgg_NoText, wca_NoText, wcg, wct⟩,
    ev_NoWord := ⟨⟨⟨_, _, _, _, _, _, _, _, _, _, _, _, _, xL_NoWord⟩, wsa_NoWord, wbe_NoWord, wty_NoWord, wkp_NoWord⟩, wga_NoWord, wgg_NoWord, wca_NoWord, wcg, wct⟩,
    ev_TooMany := ⟨⟨⟨_, _, _, _, _, _, _, _, _, _, _, _, _, xL_TooMany⟩, wsa_TooMany, wbe_TooMany, wty_TooMany, wkp_TooMany⟩, wga_TooMany, wgg_TooMany, wca_TooMany, wcg, wct⟩,
    ex_TooMany := ⟨wic_TooMany, wga_TooMany, wgg_TooMany, wbe_TooMany, wca_TooMany, wcg, wct, wmo_TooMany⟩,
    f__folds := fun c hc C hC => by
      rcases mem1 hc with rfl
      · cases hC; exact ⟨⟨pg_Table, hd_Table, po_Table, sa_Table⟩, no_Table__folds⟩,
    f__marks := fun c hc C hC => by
      rcases mem2 hc with rfl | rfl
      · cases hC
      · cases hC; exact ⟨⟨pg_Table, hd_Table, po_Table, sa_Table⟩, no_Table__marks⟩,
    iC_NoFold := a_NoFold___init__,
    iC_NoMark := a_NoMark___init__,
    iC_NoSign := a_NoSign___init__,
    iC_TooMany := a_TooMany___init__,
    ki_TooMany_OverflowError := kit_btX (by decide +kernel) wki_TooMany_OverflowError,
    ki_TooMany_ValueError := kit_btX (by decide +kernel) wki_TooMany_ValueError,
    mg_NoCommand := mgo nC_NoCommand,
    mg_NoDeed := mgo nC_NoDeed,
    mg_NoFold := mgo nC_NoFold,
    mg_NoMark := mgo nC_NoMark,
    mg_NoPath := mgo nC_NoPath,
    mg_NoSign := mgo nC_NoSign,
    mg_NoText := mgo nC_NoText,
    mg_NoWord := mgo nC_NoWord,
    mg_Table := mgo nC_Table,
    mg_TooMany := mgo nC_TooMany,
    mk_Table := ⟨mk_Table, a_Table___init__, fni_Table, kpc_Table⟩,
    nf_NoDeed_at := nf_NoDeed_at,
    nf_NoFold_sign := nf_NoFold_sign,
    nf_NoMark_sign := nf_NoMark_sign,
    nf_NoPath_path := nf_NoPath_path,
    nf_NoSign_sign := nf_NoSign_sign,
    nf_NoText_index := nf_NoText_index,
    nf_NoWord_word := nf_NoWord_word,
    nf_TooMany_limit := nf_TooMany_limit,
    tI_NoFold := ti_NoFold,
    tI_NoMark := ti_NoMark,
    tI_NoSign := ti_NoSign,
    tI_TooMany := ti_TooMany,
    xf_NoFold := ⟨wga_NoFold, wgg_NoFold, wbe_NoFold, whd_NoFold⟩,
    xf_NoMark := ⟨wga_NoMark, wgg_NoMark, wbe_NoMark, whd_NoMark⟩,
    xf_NoSign := ⟨wga_NoSign, wgg_NoSign, wbe_NoSign, whd_NoSign⟩,
    xf_TooMany := ⟨wga_TooMany, wgg_TooMany, wbe_TooMany, whd_TooMany⟩ }
  have er : ErOk (Gam K A) := fun n C hn hC => by
    rcases memE hn with rfl | rfl | rfl | rfl | rfl | rfl | rfl | rfl | rfl | rfl | rfl | rfl | rfl | rfl | rfl | rfl | rfl | rfl | rfl | rfl | rfl
    · cases hC; exact ⟨_, T.er_NoSign⟩
    · cases hC; exact ⟨_, T.er_NoFold⟩
    · cases hC; exact ⟨_, T.er_NoMark⟩
    · cases hC; exact ⟨_, T.er_NoWord⟩
    · cases hC; exact ⟨_, T.er_NoPath⟩
    · cases hC; exact ⟨_, T.er_NoDeed⟩
    · cases hC; exact ⟨_, T.er_NoText⟩
    · cases hC; exact ⟨_, T.er_NoCommand⟩
    · cases hC
    · cases hC
    · cases hC
    · cases hC
    · cases hC
    · cases hC
    · cases hC; exact ⟨_, T.er_TooMany⟩
    · cases hC
    · cases hC
    · cases hC
    · cases hC
    · cases hC
    · cases hC
  have F__law_bag := fun_mk (st := s__law_bag) l__law_bag c__law_bag k__law_bag
  have b__law_bag := F__law_bag.binds (ps := ["_law_script", "_law_at"]) fun _ _ _ _ _ _ us hl => match us, hl with | [_, _], _ => rfl
  have F__law_take := fun_mk (st := s__law_take) l__law_take c__law_take k__law_take
  have b__law_take := F__law_take.binds (ps := ["_law_bag_here", "_law_many"]) fun _ _ _ _ _ _ us hl => match us, hl with | [_, _], _ => rfl
  have F__law_rule := fun_mk (st := s__law_rule) l__law_rule c__law_rule k__law_rule
  have b__law_rule := F__law_rule.binds (ps := ["_law_bag_here"]) fun _ _ _ _ _ _ us hl => match us, hl with | [_], _ => rfl
  have F_NoSign___init__ := fun_mk (st := s_NoSign___init__) l_NoSign___init__ c_NoSign___init__ k_NoSign___init__
  have b_NoSign___init__ := F_NoSign___init__.binds (ps := ["self", "sign"]) fun _ _ _ _ _ _ us hl => match us, hl with | [_, _], _ => rfl
  have F_NoFold___init__ := fun_mk (st := s_NoFold___init__) l_NoFold___init__ c_NoFold___init__ k_NoFold___init__
  have b_NoFold___init__ := F_NoFold___init__.binds (ps := ["self", "sign"]) fun _ _ _ _ _ _ us hl => match us, hl with | [_, _], _ => rfl
  have F_NoMark___init__ := fun_mk (st := s_NoMark___init__) l_NoMark___init__ c_NoMark___init__ k_NoMark___init__
  have b_NoMark___init__ := F_NoMark___init__.binds (ps := ["self", "sign"]) fun _ _ _ _ _ _ us hl => match us, hl with | [_, _], _ => rfl
  have F_TooMany___init__ := fun_mk (st := s_TooMany___init__) l_TooMany___init__ c_TooMany___init__ k_TooMany___init__
  have b_TooMany___init__ := F_TooMany___init__.binds (ps := ["self", "limit"]) fun _ _ _ _ _ _ us hl => match us, hl with | [_, _], _ => rfl
  have F_is_sign := fun_mk (st := s_is_sign) l_is_sign c_is_sign k_is_sign
  have b_is_sign := F_is_sign.binds (ps := ["thing"]) fun _ _ _ _ _ _ us hl => match us, hl with | [_], _ => rfl
  have F__is_word_up_to := fun_mk (st := s__is_word_up_to) l__is_word_up_to c__is_word_up_to k__is_word_up_to
  have b__is_word_up_to := F__is_word_up_to.binds (ps := ["thing", "most"]) fun _ _ _ _ _ _ us hl => match us, hl with | [_, _], _ => rfl
  have F__is_fold_word := fun_mk (st := s__is_fold_word) l__is_fold_word c__is_fold_word k__is_fold_word
  have b__is_fold_word := F__is_fold_word.binds (ps := ["thing"]) fun _ _ _ _ _ _ us hl => match us, hl with | [_], _ => rfl
  have F__check_folds := fun_mk (st := s__check_folds) l__check_folds c__check_folds k__check_folds
  have b__check_folds := F__check_folds.binds (ps := ["folds"]) fun _ _ _ _ _ _ us hl => match us, hl with | [_], _ => rfl
  have F_is_number := fun_mk (st := s_is_number) l_is_number c_is_number k_is_number
  have b_is_number := F_is_number.binds (ps := ["thing"]) fun _ _ _ _ _ _ us hl => match us, hl with | [_], _ => rfl
  have F__is_mark_class := fun_mk (st := s__is_mark_class) l__is_mark_class c__is_mark_class k__is_mark_class
  have b__is_mark_class := F__is_mark_class.binds (ps := ["thing"]) fun _ _ _ _ _ _ us hl => match us, hl with | [_], _ => rfl
  have F__check_marks := fun_mk (st := s__check_marks) l__check_marks c__check_marks k__check_marks
  have b__check_marks := F__check_marks.binds (ps := ["marks", "folds"]) fun _ _ _ _ _ _ us hl => match us, hl with | [_, _], _ => rfl
  have F__check_sizes := fun_mk (st := s__check_sizes) l__check_sizes c__check_sizes k__check_sizes
  have b__check_sizes := F__check_sizes.binds (ps := ["folds", "marks"]) fun _ _ _ _ _ _ us hl => match us, hl with | [_, _], _ => rfl
  have F_Table___init__ := fun_mk (st := s_Table___init__) l_Table___init__ c_Table___init__ k_Table___init__
  have b_Table___init__ := F_Table___init__.binds (ps := ["self", "folds", "marks"]) fun _ _ _ _ _ _ us hl => match us, hl with | [_, _, _], _ => rfl
  have F_NoWord___init__ := fun_mk (st := s_NoWord___init__) l_NoWord___init__ c_NoWord___init__ k_NoWord___init__
  have b_NoWord___init__ := F_NoWord___init__.binds (ps := ["self", "word"]) fun _ _ _ _ _ _ us hl => match us, hl with | [_, _], _ => rfl
  have F_NoDeed___init__ := fun_mk (st := s_NoDeed___init__) l_NoDeed___init__ c_NoDeed___init__ k_NoDeed___init__
  have b_NoDeed___init__ := F_NoDeed___init__.binds (ps := ["self", "at"]) fun _ _ _ _ _ _ us hl => match us, hl with | [_, _], _ => rfl
  have F_NoPath___init__ := fun_mk (st := s_NoPath___init__) l_NoPath___init__ c_NoPath___init__ k_NoPath___init__
  have b_NoPath___init__ := F_NoPath___init__.binds (ps := ["self", "path"]) fun _ _ _ _ _ _ us hl => match us, hl with | [_, _], _ => rfl
  have F_NoText___init__ := fun_mk (st := s_NoText___init__) l_NoText___init__ c_NoText___init__ k_NoText___init__
  have b_NoText___init__ := F_NoText___init__.binds (ps := ["self", "index"]) fun _ _ _ _ _ _ us hl => match us, hl with | [_, _], _ => rfl
  have F__law_alone := fun_mk (st := s__law_alone) l__law_alone c__law_alone k__law_alone
  have b__law_alone := F__law_alone.binds (ps := ["_law_e"]) fun _ _ _ _ _ _ us hl => match us, hl with | [_], _ => rfl
  have F__law_error := fun_mk (st := s__law_error) l__law_error c__law_error k__law_error
  have b__law_error := F__law_error.binds (ps := ["_law_folds", "_law_marks"]) fun _ _ _ _ _ _ us hl => match us, hl with | [_, _], _ => rfl
  have F__law_bent := fun_mk (st := s__law_bent) l__law_bent c__law_bent k__law_bent
  have b__law_bent := F__law_bent.binds (ps := ["_law_bag_here", "_law_folds", "_law_marks"]) fun _ _ _ _ _ _ us hl => match us, hl with | [_, _, _], _ => rfl
  have F__law_is_sign := fun_mk (st := s__law_is_sign) l__law_is_sign c__law_is_sign k__law_is_sign
  have b__law_is_sign := F__law_is_sign.binds (ps := ["_law_thing"]) fun _ _ _ _ _ _ us hl => match us, hl with | [_], _ => rfl
  have F__law_due := fun_mk (st := s__law_due) l__law_due c__law_due k__law_due
  have b__law_due := F__law_due.binds (ps := ["_law_folds", "_law_marks"]) fun _ _ _ _ _ _ us hl => match us, hl with | [_, _], _ => rfl
  have F__law_turned := fun_mk (st := s__law_turned) l__law_turned c__law_turned k__law_turned
  have b__law_turned := F__law_turned.binds (ps := ["_law_bag_here", "_law_rows"]) fun _ _ _ _ _ _ us hl => match us, hl with | [_, _], _ => rfl
  have F_law := fun_mk (st := s_law) l_law c_law k_law
  have b_law := F_law.binds (ps := ["_law_script"]) fun _ _ _ _ _ _ us hl => match us, hl with | [_], _ => rfl
  refine ⟨PySem.W.fnOf "law" "law" (defArgs s_law) (defBody s_law) (defScope s_law) .none kV_26 dc_26 pm_26 an_26 cd_26 ct_26, [], spLawT K (Gam K A).tb, ⟨fun r hr => (nomatch hr), fun r hr => (nomatch hr), fun r hr => (nomatch hr)⟩, fun s v => .of_eq rfl, fun H a ns hl hT hS => ⟨a, ns, rfl, hS, hl, fun r hr => (nomatch hr), fun _ => rfl⟩, fun base _ _ hTB hSM => FnG.law (Γ := Gam K A) hlaw ?_⟩
  have SM := hSM himp
  have C__law_bag : Cal l.prog w K mg base (L2.CX l.prog w) 1 "_law_bag" ["_law_script", "_law_at"] (spM (Gam K A) m__law_bag_4c78) _ _ := ⟨ok__law_bag (k := 0) F__law_bag T, mgo a__law_bag, k__law_bag, b__law_bag⟩
  have C__law_take : Cal l.prog w K mg base (L2.CX l.prog w) 1 "_law_take" ["_law_bag_here", "_law_many"] (spM (Gam K A) m__law_take_d4ae) _ _ := ⟨ok__law_take (k := 0) F__law_take T, mgo a__law_take, k__law_take, b__law_take⟩
  have C__law_rule : Cal l.prog w K mg base (L2.CX l.prog w) 2 "_law_rule" ["_law_bag_here"] (spM (Gam K A) q__law_rule) _ _ := ⟨ok__law_rule (k := 1) F__law_rule T (C__law_take.up (by decide)), mgo a__law_rule, k__law_rule, b__law_rule⟩
  have C_NoSign___init__ : CalN l.prog w K mg base (L2.CX l.prog w) 1 ["self", "sign"] (spErI A.C_NoSign ["sign"]) A.f_NoSign___init__ _ := ⟨ok_NoSign___init__ (k := 0) F_NoSign___init__ T, b_NoSign___init__⟩
  have C_NoFold___init__ : CalN l.prog w K mg base (L2.CX l.prog w) 1 ["self", "sign"] (spErI A.C_NoFold ["sign"]) A.f_NoFold___init__ _ := ⟨ok_NoFold___init__ (k := 0) F_NoFold___init__ T, b_NoFold___init__⟩
  have C_NoMark___init__ : CalN l.prog w K mg base (L2.CX l.prog w) 1 ["self", "sign"] (spErI A.C_NoMark ["sign"]) A.f_NoMark___init__ _ := ⟨ok_NoMark___init__ (k := 0) F_NoMark___init__ T, b_NoMark___init__⟩
  have C_TooMany___init__ : CalN l.prog w K mg base (L2.CX l.prog w) 1 ["self", "limit"] (spErI A.C_TooMany ["limit"]) A.f_TooMany___init__ _ := ⟨ok_TooMany___init__ (k := 0) F_TooMany___init__ T, b_TooMany___init__⟩
  have C_is_sign : Cal l.prog w K mg base (L2.CX l.prog w) 1 "is_sign" ["thing"] (spM (Gam K A) m_is_sign) _ _ := ⟨ok_is_sign (k := 0) F_is_sign T, mgo a_is_sign, k_is_sign, b_is_sign⟩
  have C__is_word_up_to : Cal l.prog w K mg base (L2.CX l.prog w) 1 "_is_word_up_to" ["thing", "most"] (spM (Gam K A) m__is_word_up_to) _ _ := ⟨ok__is_word_up_to (k := 0) F__is_word_up_to T, mgo a__is_word_up_to, k__is_word_up_to, b__is_word_up_to⟩
  have C__is_fold_word : Cal l.prog w K mg base (L2.CX l.prog w) 2 "_is_fold_word" ["thing"] (spM (Gam K A) m__is_fold_word) _ _ := ⟨ok__is_fold_word (k := 1) F__is_fold_word T (C__is_word_up_to.up (by decide)), mgo a__is_fold_word, k__is_fold_word, b__is_fold_word⟩
  have C__check_folds : Cal l.prog w K mg base (L2.CX l.prog w) 4 "_check_folds" ["folds"] (spM (Gam K A) m__check_folds) _ _ := ⟨ok__check_folds (k := 2) F__check_folds T (C_is_sign.up (by decide)) (C_NoSign___init__.up (by decide)) (C__is_fold_word.up (by decide)) (C_NoFold___init__.up (by decide)), mgo a__check_folds, k__check_folds, b__check_folds⟩
  have C_is_number : Cal l.prog w K mg base (L2.CX l.prog w) 1 "is_number" ["thing"] (spM (Gam K A) m_is_number) _ _ := ⟨ok_is_number (k := 0) F_is_number T, mgo a_is_number, k_is_number, b_is_number⟩
  have C__is_mark_class : Cal l.prog w K mg base (L2.CX l.prog w) 2 "_is_mark_class" ["thing"] (spM (Gam K A) m__is_mark_class) _ _ := ⟨ok__is_mark_class (k := 1) F__is_mark_class T (C_is_number.up (by decide)), mgo a__is_mark_class, k__is_mark_class, b__is_mark_class⟩
  have C__check_marks : Cal l.prog w K mg base (L2.CX l.prog w) 4 "_check_marks" ["marks", "folds"] (spM (Gam K A) m__check_marks) _ _ := ⟨ok__check_marks (k := 2) F__check_marks T (C_is_sign.up (by decide)) (C_NoSign___init__.up (by decide)) (C__is_mark_class.up (by decide)) (C_NoMark___init__.up (by decide)), mgo a__check_marks, k__check_marks, b__check_marks⟩
  have C__check_sizes : Cal l.prog w K mg base (L2.CX l.prog w) 3 "_check_sizes" ["folds", "marks"] (spM (Gam K A) m__check_sizes) _ _ := ⟨ok__check_sizes (k := 1) F__check_sizes T (C_TooMany___init__.up (by decide)), mgo a__check_sizes, k__check_sizes, b__check_sizes⟩
  have C_Table___init__ : CalN l.prog w K mg base (L2.CX l.prog w) 5 ["self", "folds", "marks"] (spM (Gam K A) m_Table___init__) A.f_Table___init__ _ := ⟨ok_Table___init__ (k := 4) F_Table___init__ T (C__check_folds.up (by decide)) (C__check_marks.up (by decide)) (C__check_sizes.up (by decide)), b_Table___init__⟩
  have C_NoWord___init__ : CalN l.prog w K mg base (L2.CX l.prog w) 1 ["self", "word"] (spErI A.C_NoWord ["word"]) A.f_NoWord___init__ _ := ⟨ok_NoWord___init__ (k := 0) F_NoWord___init__ T, b_NoWord___init__⟩
  have C_NoDeed___init__ : CalN l.prog w K mg base (L2.CX l.prog w) 1 ["self", "at"] (spErI A.C_NoDeed ["at"]) A.f_NoDeed___init__ _ := ⟨ok_NoDeed___init__ (k := 0) F_NoDeed___init__ T, b_NoDeed___init__⟩
  have C_NoPath___init__ : CalN l.prog w K mg base (L2.CX l.prog w) 1 ["self", "path"] (spErI A.C_NoPath ["path"]) A.f_NoPath___init__ _ := ⟨ok_NoPath___init__ (k := 0) F_NoPath___init__ T, b_NoPath___init__⟩
  have C_NoText___init__ : CalN l.prog w K mg base (L2.CX l.prog w) 1 ["self", "index"] (spErI A.C_NoText ["index"]) A.f_NoText___init__ _ := ⟨ok_NoText___init__ (k := 0) F_NoText___init__ T, b_NoText___init__⟩
  have C__law_alone : CalA l.prog w (Gam K A) mg base 1 "_law_alone" "_law_e" q__law_alone _ _ := ⟨ok__law_alone (k := 0) F__law_alone T, mgo a__law_alone, k__law_alone, b__law_alone⟩
  have C__law_error : Cal l.prog w K mg base (L2.CX l.prog w) 7 "_law_error" ["_law_folds", "_law_marks"] (spM (Gam K A) q__law_error) _ _ := ⟨ok__law_error (k := 5) F__law_error T er (C_Table___init__.up (by decide)) (C__law_alone.up (by decide)), mgo a__law_error, k__law_error, b__law_error⟩
  have C__law_bent : Cal l.prog w K mg base (L2.CX l.prog w) 2 "_law_bent" ["_law_bag_here", "_law_folds", "_law_marks"] (spM (Gam K A) q__law_bent) _ _ := ⟨ok__law_bent (k := 1) F__law_bent T (C__law_take.up (by decide)), mgo a__law_bent, k__law_bent, b__law_bent⟩
  have C__law_is_sign : Cal l.prog w K mg base (L2.CX l.prog w) 1 "_law_is_sign" ["_law_thing"] (spM (Gam K A) q__law_is_sign) _ _ := ⟨ok__law_is_sign (k := 0) F__law_is_sign T, mgo a__law_is_sign, k__law_is_sign, b__law_is_sign⟩
  have C__law_due : Cal l.prog w K mg base (L2.CX l.prog w) 2 "_law_due" ["_law_folds", "_law_marks"] (spM (Gam K A) q__law_due) _ _ := ⟨ok__law_due (k := 1) F__law_due T (C__law_is_sign.up (by decide)), mgo a__law_due, k__law_due, b__law_due⟩
  have C__law_turned : Cal l.prog w K mg base (L2.CX l.prog w) 2 "_law_turned" ["_law_bag_here", "_law_rows"] (spM (Gam K A) q__law_turned) _ _ := ⟨ok__law_turned (k := 1) F__law_turned T (C__law_take.up (by decide)), mgo a__law_turned, k__law_turned, b__law_turned⟩
  exact ok_law (k := 7) F_law T SM (C__law_bag.up (by decide)) (C__law_rule.up (by decide)) (C__law_take.up (by decide)) (C__law_bent.up (by decide)) (C__law_due.up (by decide)) (C__law_error.up (by decide)) (C__law_turned.up (by decide))
end Nm
open PySem PySem.W PyProof.Rows in
set_option maxRecDepth 100000 in
set_option maxHeartbeats 0 in
theorem PySem.Challenge.cw_namesone_k02_tables_refused_holds : PySem.Challenge.rw_namesone_k02_tables_refused.Holds := by
  w_on; o_law; k_head; (case hw => w_witness2)
  k_fill
  refine Nm.walk_GT (l := PySem.Challenge.rw_namesone_k02_tables_refused) (n := 63) (k := 8) (x := "_law_script") rfl (by decide) rfl ⟨rfl, by decide, by decide⟩ (fun w h Y => PySem.W.kIn_of Y) ?F
  case F =>
    intro w mg fa h Y KX G hmg
    refine' Nm.all_mk KX G hmg ?nC_NoSign ?nC_NoFold ?nC_NoMark ?nC_NoWord ?nC_NoPath ?nC_NoDeed ?nC_NoText ?nC_NoCommand ?nC_TooMany ?nC_Table ?pg_Table ?hd_Table ?po_Table ?sa_Table ?a__law_bag ?l__law_bag ?c__law_bag ?k__law_bag ?a__law_take ?l__law_take ?c__law_take ?k__law_take ?a__law_rule ?l__law_rule ?c__law_rule ?k__law_rule ?a_NoSign___init__ ?l_NoSign___init__ ?c_NoSign___init__ ?k_NoSign___init__ ?a_NoFold___init__ ?l_NoFold___init__ ?c_NoFold___init__ ?k_NoFold___init__ ?a_NoMark___init__ ?l_NoMark___init__ ?c_NoMark___init__ ?k_NoMark___init__ ?a_TooMany___init__ ?l_TooMany___init__ ?c_TooMany___init__ ?k_TooMany___init__ ?a_is_sign ?l_is_sign ?c_is_sign ?k_is_sign ?a__is_word_up_to ?l__is_word_up_to ?c__is_word_up_to ?k__is_word_up_to ?a__is_fold_word ?l__is_fold_word ?c__is_fold_word ?k__is_fold_word ?a__check_folds ?l__check_folds ?c__check_folds ?k__check_folds ?a_is_number ?l_is_number ?c_is_number ?k_is_number ?a__is_mark_class ?l__is_mark_class ?c__is_mark_class ?k__is_mark_class ?a__check_marks ?l__check_marks ?c__check_marks ?k__check_marks ?a__check_sizes ?l__check_sizes ?c__check_sizes ?k__check_sizes ?a_Table___init__ ?l_Table___init__ ?c_Table___init__ ?k_Table___init__ ?a_NoWord___init__ ?l_NoWord___init__ ?c_NoWord___init__ ?k_NoWord___init__ ?a_NoDeed___init__ ?l_NoDeed___init__ ?c_NoDeed___init__ ?k_NoDeed___init__ ?a_NoPath___init__ ?l_NoPath___init__ ?c_NoPath___init__ ?k_NoPath___init__ ?a_NoText___init__ ?l_NoText___init__ ?c_NoText___init__ ?k_NoText___init__ ?a__law_alone ?l__law_alone ?c__law_alone ?k__law_alone ?a__law_error ?l__law_error ?c__law_error ?k__law_error ?a__law_bent ?l__law_bent ?c__law_bent ?k__law_bent ?a__law_is_sign ?l__law_is_sign ?c__law_is_sign ?k__law_is_sign ?a__law_due ?l__law_due ?c__law_due ?k__law_due ?a__law_turned ?l__law_turned ?c__law_turned ?k__law_turned ?a_law ?l_law ?c_law ?k_law ?z_OverflowError ?z_ValueError ?z_abs ?z_all ?z_any ?z_bool ?z_dict ?z_int ?z_isinstance ?z_len ?z_list ?z_max ?z_min ?z_range ?z_repr ?z_sorted ?z_str ?g_SIGNS ?g_LONGEST_FOLD ?g_MARK_CLASSES ?kl_MARK_CLASSES ?g_MOST_FOLDS ?g_MOST_MARKS ?xL_NoCommand ?wsa_NoCommand ?wbe_NoCommand ?wty_NoCommand ?wkp_NoCommand ?xL_NoDeed ?wsa_NoDeed ?wbe_NoDeed ?wty_NoDeed ?wkp_NoDeed ?xL_NoFold ?wsa_NoFold ?wbe_NoFold ?wty_NoFold ?wkp_NoFold ?xL_NoMark ?wsa_NoMark ?wbe_NoMark ?wty_NoMark ?wkp_NoMark ?xL_NoPath ?wsa_NoPath ?wbe_NoPath ?wty_NoPath ?wkp_NoPath ?xL_NoSign ?wsa_NoSign ?wbe_NoSign ?wty_NoSign ?wkp_NoSign ?xL_NoText ?wsa_NoText ?wbe_NoText ?wty_NoText ?wkp_NoText ?xL_NoWord ?wsa_NoWord ?wbe_NoWord ?wty_NoWord ?wkp_NoWord ?xL_TooMany ?wsa_TooMany ?wbe_TooMany ?wty_TooMany ?wkp_TooMany ?wga_NoCommand ?wgg_NoCommand ?wca_NoCommand ?wcg ?wct ?wga_NoDeed ?wgg_NoDeed ?wca_NoDeed ?wga_NoFold ?wgg_NoFold ?wca_NoFold ?wga_NoMark ?wgg_NoMark ?wca_NoMark ?wga_NoPath ?wgg_NoPath ?wca_NoPath ?wga_NoSign ?wgg_NoSign ?wca_NoSign ?wga_NoText ?wgg_NoText ?wca_NoText ?wga_NoWord ?wgg_NoWord ?wca_NoWord ?wga_TooMany ?wgg_TooMany ?wca_TooMany ?wic_TooMany ?wmo_TooMany ?no_Table__folds ?no_Table__marks ?wki_TooMany_OverflowError ?wki_TooMany_ValueError ?mk_Table ?fni_Table ?kpc_Table ?nf_NoDeed_at ?nf_NoFold_sign ?nf_NoMark_sign ?nf_NoPath_path ?nf_NoSign_sign ?nf_NoText_index ?nf_NoWord_word ?nf_TooMany_limit ?ti_NoFold ?ti_NoMark ?ti_NoSign ?ti_TooMany ?whd_NoFold ?whd_NoMark ?whd_NoSign ?whd_TooMany ?himp Nm.law_true
    (case nC_NoSign => k_is)
    (case nC_NoFold => k_is)
    (case nC_NoMark => k_is)
    (case nC_NoWord => k_is)
    (case nC_NoPath => k_is)
    (case nC_NoDeed => k_is)
    (case nC_NoText => k_is)
    (case nC_NoCommand => k_is)
    (case nC_TooMany => k_is)
    (case nC_Table => k_is)
    (case pg_Table => k_is)
    (case hd_Table => k_is)
    (case po_Table => k_is)
    (case sa_Table => k_is)
    (case a__law_bag => k_is)
    (case l__law_bag => k_is)
    (case c__law_bag => k_is)
    (case k__law_bag => k_is)
    (case a__law_take => k_is)
    (case l__law_take => k_is)
    (case c__law_take => k_is)
    (case k__law_take => k_is)
    (case a__law_rule => k_is)
    (case l__law_rule => k_is)
    (case c__law_rule => k_is)
    (case k__law_rule => k_is)
    (case a_NoSign___init__ => k_is)
    (case l_NoSign___init__ => k_is)
    (case c_NoSign___init__ => k_is)
    (case k_NoSign___init__ => k_is)
    (case a_NoFold___init__ => k_is)
    (case l_NoFold___init__ => k_is)
    (case c_NoFold___init__ => k_is)
    (case k_NoFold___init__ => k_is)
    (case a_NoMark___init__ => k_is)
    (case l_NoMark___init__ => k_is)
    (case c_NoMark___init__ => k_is)
    (case k_NoMark___init__ => k_is)
    (case a_TooMany___init__ => k_is)
    (case l_TooMany___init__ => k_is)
    (case c_TooMany___init__ => k_is)
    (case k_TooMany___init__ => k_is)
    (case a_is_sign => k_is)
    (case l_is_sign => k_is)
    (case c_is_sign => k_is)
    (case k_is_sign => k_is)
    (case a__is_word_up_to => k_is)
    (case l__is_word_up_to => k_is)
    (case c__is_word_up_to => k_is)
    (case k__is_word_up_to => k_is)
    (case a__is_fold_word => k_is)
    (case l__is_fold_word => k_is)
    (case c__is_fold_word => k_is)
    (case k__is_fold_word => k_is)
    (case a__check_folds => k_is)
    (case l__check_folds => k_is)
    (case c__check_folds => k_is)
    (case k__check_folds => k_is)
    (case a_is_number => k_is)
    (case l_is_number => k_is)
    (case c_is_number => k_is)
    (case k_is_number => k_is)
    (case a__is_mark_class => k_is)
    (case l__is_mark_class => k_is)
    (case c__is_mark_class => k_is)
    (case k__is_mark_class => k_is)
    (case a__check_marks => k_is)
    (case l__check_marks => k_is)
    (case c__check_marks => k_is)
    (case k__check_marks => k_is)
    (case a__check_sizes => k_is)
    (case l__check_sizes => k_is)
    (case c__check_sizes => k_is)
    (case k__check_sizes => k_is)
    (case a_Table___init__ => k_is)
    (case l_Table___init__ => k_is)
    (case c_Table___init__ => k_is)
    (case k_Table___init__ => k_is)
    (case a_NoWord___init__ => k_is)
    (case l_NoWord___init__ => k_is)
    (case c_NoWord___init__ => k_is)
    (case k_NoWord___init__ => k_is)
    (case a_NoDeed___init__ => k_is)
    (case l_NoDeed___init__ => k_is)
    (case c_NoDeed___init__ => k_is)
    (case k_NoDeed___init__ => k_is)
    (case a_NoPath___init__ => k_is)
    (case l_NoPath___init__ => k_is)
    (case c_NoPath___init__ => k_is)
    (case k_NoPath___init__ => k_is)
    (case a_NoText___init__ => k_is)
    (case l_NoText___init__ => k_is)
    (case c_NoText___init__ => k_is)
    (case k_NoText___init__ => k_is)
    (case a__law_alone => k_is)
    (case l__law_alone => k_is)
    (case c__law_alone => k_is)
    (case k__law_alone => k_is)
    (case a__law_error => k_is)
    (case l__law_error => k_is)
    (case c__law_error => k_is)
    (case k__law_error => k_is)
    (case a__law_bent => k_is)
    (case l__law_bent => k_is)
    (case c__law_bent => k_is)
    (case k__law_bent => k_is)
    (case a__law_is_sign => k_is)
    (case l__law_is_sign => k_is)
    (case c__law_is_sign => k_is)
    (case k__law_is_sign => k_is)
    (case a__law_due => k_is)
    (case l__law_due => k_is)
    (case c__law_due => k_is)
    (case k__law_due => k_is)
    (case a__law_turned => k_is)
    (case l__law_turned => k_is)
    (case c__law_turned => k_is)
    (case k__law_turned => k_is)
    (case a_law => k_is)
    (case l_law => k_is)
    (case c_law => k_is)
    (case k_law => k_is)
    (case z_OverflowError => k_is)
    (case z_ValueError => k_is)
    (case z_abs => k_is)
    (case z_all => k_is)
    (case z_any => k_is)
    (case z_bool => k_is)
    (case z_dict => k_is)
    (case z_int => k_is)
    (case z_isinstance => k_is)
    (case z_len => k_is)
    (case z_list => k_is)
    (case z_max => k_is)
    (case z_min => k_is)
    (case z_range => k_is)
    (case z_repr => k_is)
    (case z_sorted => k_is)
    (case z_str => k_is)
    (case g_SIGNS => k_is)
    (case g_LONGEST_FOLD => k_is)
    (case g_MARK_CLASSES => k_is)
    (case kl_MARK_CLASSES => k_is)
    (case g_MOST_FOLDS => k_is)
    (case g_MOST_MARKS => k_is)
    (case xL_NoCommand => k_is)
    (case wsa_NoCommand => k_is)
    (case wbe_NoCommand => k_is)
    (case wty_NoCommand => k_is)
    (case wkp_NoCommand => k_is)
    (case xL_NoDeed => k_is)
    (case wsa_NoDeed => k_is)
    (case wbe_NoDeed => k_is)
    (case wty_NoDeed => k_is)
    (case wkp_NoDeed => k_is)
    (case xL_NoFold => k_is)
    (case wsa_NoFold => k_is)
    (case wbe_NoFold => k_is)
    (case wty_NoFold => k_is)
    (case wkp_NoFold => k_is)
    (case xL_NoMark => k_is)
    (case wsa_NoMark => k_is)
    (case wbe_NoMark => k_is)
    (case wty_NoMark => k_is)
    (case wkp_NoMark => k_is)
    (case xL_NoPath => k_is)
    (case wsa_NoPath => k_is)
    (case wbe_NoPath => k_is)
    (case wty_NoPath => k_is)
    (case wkp_NoPath => k_is)
    (case xL_NoSign => k_is)
    (case wsa_NoSign => k_is)
    (case wbe_NoSign => k_is)
    (case wty_NoSign => k_is)
    (case wkp_NoSign => k_is)
    (case xL_NoText => k_is)
    (case wsa_NoText => k_is)
    (case wbe_NoText => k_is)
    (case wty_NoText => k_is)
    (case wkp_NoText => k_is)
    (case xL_NoWord => k_is)
    (case wsa_NoWord => k_is)
    (case wbe_NoWord => k_is)
    (case wty_NoWord => k_is)
    (case wkp_NoWord => k_is)
    (case xL_TooMany => k_is)
    (case wsa_TooMany => k_is)
    (case wbe_TooMany => k_is)
    (case wty_TooMany => k_is)
    (case wkp_TooMany => k_is)
    (case wga_NoCommand => k_is)
    (case wgg_NoCommand => k_is)
    (case wca_NoCommand => k_is)
    (case wcg => k_is)
    (case wct => k_is)
    (case wga_NoDeed => k_is)
    (case wgg_NoDeed => k_is)
    (case wca_NoDeed => k_is)
    (case wga_NoFold => k_is)
    (case wgg_NoFold => k_is)
    (case wca_NoFold => k_is)
    (case wga_NoMark => k_is)
    (case wgg_NoMark => k_is)
    (case wca_NoMark => k_is)
    (case wga_NoPath => k_is)
    (case wgg_NoPath => k_is)
    (case wca_NoPath => k_is)
    (case wga_NoSign => k_is)
    (case wgg_NoSign => k_is)
    (case wca_NoSign => k_is)
    (case wga_NoText => k_is)
    (case wgg_NoText => k_is)
    (case wca_NoText => k_is)
    (case wga_NoWord => k_is)
    (case wgg_NoWord => k_is)
    (case wca_NoWord => k_is)
    (case wga_TooMany => k_is)
    (case wgg_TooMany => k_is)
    (case wca_TooMany => k_is)
    (case wic_TooMany => k_is)
    (case wmo_TooMany => k_is)
    (case no_Table__folds => k_is)
    (case no_Table__marks => k_is)
    (case wki_TooMany_OverflowError => k_is)
    (case wki_TooMany_ValueError => k_is)
    (case mk_Table => k_is)
    (case fni_Table => k_is)
    (case kpc_Table => k_is)
    (case nf_NoDeed_at => k_is)
    (case nf_NoFold_sign => k_is)
    (case nf_NoMark_sign => k_is)
    (case nf_NoPath_path => k_is)
    (case nf_NoSign_sign => k_is)
    (case nf_NoText_index => k_is)
    (case nf_NoWord_word => k_is)
    (case nf_TooMany_limit => k_is)
    (case ti_NoFold => k_is)
    (case ti_NoMark => k_is)
    (case ti_NoSign => k_is)
    (case ti_TooMany => k_is)
    (case whd_NoFold => k_is)
    (case whd_NoMark => k_is)
    (case whd_NoSign => k_is)
    (case whd_TooMany => k_is)
    (case himp => first | rfl | kernel_rfl | decide +kernel)
