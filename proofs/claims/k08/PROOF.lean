import PyProof.Rows.All
import Wide.All
import OpenK.AllK
import Wide.FinOn
import HandS.ForMost
import HandS.IsInst
import HandS.Walk
import HandS.Evl
import KE.KExcIs
import HandS.More
import HandS.Exc
import HandS.ExcOwn
import HandS.WordsExc
import HandS.ExcInit
import HandS.ExcField
import HandS.Property
import HandS.Star
import KE.KCallOwn
import HandS.OwnEq
import HandS.Dict
import HandS.Finally
import HandS.FStr
import PyProof.FString3
import PyProof.Rows.StrIntSpec
import KE.KEqDict
import HandS.DictComp
import HandS.Iter
import PyProof.Draws
import PyProof.Rows.SetFrom
import PyProof.Rows.SortShellAny
import HandS.Set
import HandS.Strs
import HandS.SetFor
import HandS.Style
import HandS.Text
import KE.KRevSl
import HandS.Flow
import PySem.Challenge.RW_namesone_k08_whole_ways_and_papers
set_option Elab.async false
set_option linter.all false
set_option maxRecDepth 100000
set_option maxHeartbeats 4000000
/-! Our own layer over HandS: callees in one structure, promises that hold where no repr runs around, data with dicts and its repr. -/
namespace Nm
open PySem PySem.Spec PyProof.Rows L2
abbrev Fg := PySem.W.Frag
section
variable {X : Cx}
/-- a constant of the module, its token left open -/
theorem pe_gx {x : Str} {v : V} {pos : Pos} (hg : Gl X x) (hm : ∃ u, X.mg x = some u ∧ RelV v u) (hd : (x == ("__debug__" : Str)) = false := by decide) : PE X (.Name x pos) (tC v) :=
  hm.elim fun _ h => pe_glob hg h.1 h.2 hd
end
/-- a def by its name: it keeps its promise, it stands there, it is bound by its parameters -/
structure Cal (P : Program) (w : World) (K : Fg) (mg : Str → Option Value) (base : Heap) (CX : CXT) (k : Nat) (x : Str) (ps : List Str) (sp : Sp) (f : Addr) (fd : FuncData) : Prop where
  ok : FnOk P w K mg base CX k f fd ps sp
  mg : mg x = some (.ref f)
  kp : PySem.W.keepIn K (.ref f) = true
  b : Binds K fd ps []
/-- a promise that is kept wherever no repr runs around -/
structure FnG (P : Program) (w : World) (K : Fg) (mg : Str → Option Value) (base : Heap) (CX : CXT) (k : Nat) (f : Addr) (fd : FuncData) (ps : List Str) (sp : Sp) : Prop where
  many : ∀ vs H Q E, sp vs H Q E → vs.length = ps.length
  go : ∀ (A : Around) (fr : List Env) (s : Shared) (H : Hp) (ar : Args) (us : List Value) (vs : List V) (Q : VK) (E : XK), A.guards = some [] → Room k A → Env0 P w K mg base A fr s H →
    BindsTo s fd ar (ps.zip us) → Vals vs us → sp vs H Q E → codeAny (model P w) A (.call (.ref f) ar) (CR CX fr P w H s Q E) s
section
variable {P : Program} {w : World} {K : Fg} {mg : Str → Option Value} {base : Heap} {CX : CXT} {k : Nat} {f : Addr} {fd : FuncData} {ps : List Str} {sp : Sp}
theorem FnG.of (F : FnOk P w K mg base CX k f fd ps sp) : FnG P w K mg base CX k f fd ps sp :=
  ⟨F.len, fun A fr s H ar us vs Q E _ => F.run A fr s H ar us vs Q E⟩
theorem FnG.up (F : FnG P w K mg base CX k f fd ps sp) {j : Nat} (h : k ≤ j) : FnG P w K mg base CX j f fd ps sp :=
  ⟨F.many, fun A fr s H ar us vs Q E hG hr => F.go A fr s H ar us vs Q E hG (hr.mono h)⟩
end
structure CalG (P : Program) (w : World) (K : Fg) (mg : Str → Option Value) (base : Heap) (CX : CXT) (k : Nat) (x : Str) (ps : List Str) (sp : Sp) (f : Addr) (fd : FuncData) : Prop where
  ok : FnG P w K mg base CX k f fd ps sp
  mg : mg x = some (.ref f)
  kp : PySem.W.keepIn K (.ref f) = true
  b : Binds K fd ps []
section
variable {X : Cx} {CX : CXT} {k : Nat} {f : Addr} {fd : FuncData} {ps : List Str} {sp : Sp} {dvs : List V} {ds : List Value} {E : XK}
theorem goG {pins : List (Addr × Obj)} {σ : L2.St} {H : Hp} {s : Shared} {Q : VK} {us : List Value} {vs : List V} (F : FnG X.prog X.w X.K X.mg X.base CX k f fd ps sp) (hG : X.A.guards = some []) (hr : Room k X.A)
    (hb : Binds X.K fd ps ds) (hd : Vals dvs ds) (hx : Passes CX X E) (I : Inv X pins σ H s) (r : Vals vs us) (h : sp (vs ++ dvs) H Q E) : wpAny (model X.prog X.w) X.A (call (.ref f) us) (EP X pins σ Q) X.xe s := by
  have rr := r.append hd
  have many := F.many _ _ _ _ h
  rw [rr.length] at many
  have go := F.go X.A X.stack s H ⟨us, []⟩ _ _ Q E hG hr I.env0 (hb s us I.kIn many) rr h
  refine wpAny_call (codeAny_mono go ?_)
  rintro (e | (_ | _ | _ | u)) s' q
  · exact hx _ _ _ _ _ _ I q
  all_goals first | exact I.after q | exact (show False from q).elim
theorem pe_callG {x : Str} {p pos : Pos} {e : Expr} {es : List Expr} {t : TA} (F : FnG X.prog X.w X.K X.mg X.base CX k f fd ps sp) (hG : X.A.guards = some []) (hr : Room k X.A) (hg : Gl X x) (hm : X.mg x = some (.ref f))
    (hk : PySem.W.keepIn X.K (.ref f) = true) (hb : Binds X.K fd ps ds) (hd : Vals dvs ds) (hx : Passes CX X E) (ha : PA X (e :: es) t) (hdb : (x == ("__debug__" : Str)) = false := by decide)
    (h1 : starEach (e :: es) X.env = (false, eval e X.env) :: starEach es X.env := by rfl) (h2 : (backTo pos (starEach es X.env)).any (·.1) = false := by rfl) : PE X (.Call (.Name x p) (e :: es) [] pos) (tCall sp dvs E t) :=
  ⟨fun pins s σ H Q I h => wpAny_Call_Name_kw (ld_glob I hg hm (PySem.W.callWith_K (h₀ := X.base) I.ok.mod.kin hk
    (thn (ha.run pos pins s σ H _ I h) fun _ _ q => match q with | ⟨_, _, J, r, q⟩ => ⟨J.kIn, goG F hG hr hb hd hx J r q⟩) h1 h2) hdb)⟩
theorem pe_call0G {x : Str} {p pos : Pos} (F : FnG X.prog X.w X.K X.mg X.base CX k f fd ps sp) (hG : X.A.guards = some []) (hr : Room k X.A) (hg : Gl X x) (hm : X.mg x = some (.ref f))
    (hk : PySem.W.keepIn X.K (.ref f) = true) (hb : Binds X.K fd ps ds) (hd : Vals dvs ds) (hx : Passes CX X E) (hdb : (x == ("__debug__" : Str)) = false := by decide) : PE X (.Call (.Name x p) [] [] pos) (tCall sp dvs E tNil) :=
  ⟨fun pins s σ H Q I h => wpAny_Call_Name_kw (ld_glob I hg hm (PySem.W.callWith_K0 I.kIn hk (goG (us := []) F hG hr hb hd hx I .nil h)) hdb)⟩
end
section
variable {P : Program} {w : World} {K : Fg} {mg : Str → Option Value} {base : Heap} {CX : CXT}
/-- the rule for a def whose body may ask for repr -/
theorem okG {x qual : Str} {st : Stmt} {f : Addr} {fd : FuncData} {N ps : List Str} {k : Nat} {sp : Sp} (F : Fun K x qual st f fd) (S : FnScope N ps (defScope st)) (many : ∀ vs H Q E, sp vs H Q E → vs.length = ps.length)
    (hb : ∀ (cdv : Value) (A : Around) (fr : List Env) (s : Shared) (H : Hp) (vs : List V) (Q : VK) (E : XK), A.guards = some [] → Room k (A.deeper (envOfC qual (defScope st) s.heap.objs.size f cdv)) → sp vs H Q E →
      ∃ t, PSs (cxOf CX P w K mg base N qual (defScope st) f cdv A fr s H E).nox (defBody st) t ∧ t { nx := fun _ H' => Q .non H', rt := Q } (start N vs) H) : FnG P w K mg base CX (k + 1) f fd ps sp := by
  refine ⟨many, fun A fr s H ar us vs Q E hG hr e0 hbi r q => ?_⟩
  obtain ⟨oc, od, kV, doc, pm, an, cdv, ct, osl, rfl, lk, hc⟩ := F.ex
  -- the def's promise at this one call alone
  let sp1 : Sp := fun vs' H' Q' E' => vs' = vs ∧ H' = H ∧ sp vs H Q' E'
  have hl := many _ _ _ _ q
  have KX : K.In s.heap := e0.mod.kin.keeps fun b o e => (e0.bs b o e).1
  have lim : s.heap.NoLimit := e0.mod.nolimit.keeps fun b o e => (e0.bs b o e).1
  have kinds : ∀ y ∈ ps.zip us, (defScope st).names.lookup y.1 = some .local ∨ ((defScope st).names.lookup y.1 = some .cell ∧ ((cellsFrom (s.heap.objs.size + 1) (defScope st).names []).lookup y.1).isSome = true) := by
    rintro ⟨n, v⟩ hy
    exact (S.par n (List.of_mem_zip hy).1).imp id fun q => ⟨q, PySem.W.cellsFrom_some _ _ _ (.inl q)⟩
  refine codeAny_call_function hr.depth (KX _ _ lk) rfl S.co S.gen rfl (PySem.W.codeRec_of KX hc) (hbi _ _ _ _ ?_)
  refine wpAny_newFunctionEnv_cells S.kind kinds fun env he s1 z => ?_
  subst he
  obtain ⟨t, ht, hq⟩ := hb cdv A fr s H vs Q E hG (hr.deeper _) q
  have I := inv_start (CX := CX) (P := P) (w := w) (K := K) (mg := mg) (base := base) (E := E) S hr.hd e0 hl r z
  refine ⟨lim.keeps z.toInCall.keep, codeAny_func (wpAny_mono (ht.nox.run [] s1 _ H _ I hq) ?_ fun _ _ h => h)⟩
  rintro (_ | _ | _ | u) s' h
  · obtain ⟨_, H', J, h⟩ := h
    exact ⟨V.non, H', J.os, J.bare, J.base, J.hok, rfl, h⟩
  · obtain ⟨_, _, _, h⟩ := h
    exact (show False from h).elim
  · obtain ⟨_, _, _, h⟩ := h
    exact (show False from h).elim
  · obtain ⟨v, _, H', J, rv, h⟩ := h
    exact ⟨v, H', J.os, J.bare, J.base, J.hok, rv, h⟩
end

/-! ### the head, for a law whose body may ask for repr -/
theorem head_call {P : Program} {w : World} {K : Fg} {mg mb : Str → Option Value} {k : Nat} {fa a : Addr} {fd : FuncData} {x : Str} {sp : Sp} {s₁ : Shared} {vs : List Value} {ns : List Int}
    (KX : K.In s₁.heap) (hns : s₁.heap.Ns mainGlobals mg) (hb : s₁.heap.Ns builtinsNs mb) (hbb : ∀ x : Str, x ≠ "__name__" → mb x = bootBuiltins x) (hlim : s₁.heap.NoLimit) (hg : s₁.gens = #[])
    (ha : s₁.heap.get? a = some { cls := .type "list", data := .seq vs.toArray }) (hi : IntsAre vs ns) (hl : ns.length ≤ sizeLine) (hr : Room k callerA)
    (F : ∀ base : Heap, K.In base → base.Ns mainGlobals mg → FnG P w K mg base CX0 k fa fd [x] sp) (hbi : ∀ (s : Shared) (u : Value), BindsTo s fd ⟨[u], []⟩ [(x, u)])
    (hsp : ∀ H : Hp, Only H → SqL K H a (ns.map V.int) → sp [.ref a] H (fun v _ => v = .bl true) fun _ _ _ => False) :
    codeAny (model P w) callerA (.call (.ref fa) ⟨[.ref a], []⟩) (fun r s' => r = .ok (.ret (.bool true)) ∧ OldK s₁.heap s'.heap ∧ s'.os = s₁.os ∧ AllBare s'.gens) s₁ := by
  have rv := vals_ints hi
  -- what is tracked: the script alone, if it is no object of the written part
  obtain ⟨H, hO, hS, hA, hK, hok⟩ : ∃ H : Hp, Only H ∧ SqL K H a (ns.map V.int) ∧ (∀ b, H b ≠ none → b = a) ∧ (H a ≠ none → K.lookup a = none) ∧ HOk P w H s₁.heap := by
    cases hk : K.lookup a with
    | some o =>
      have e := KX a o hk
      rw [ha] at e
      injection e with e
      subst e
      exact ⟨fun _ => none, fun _ => .inl rfl, .inr ⟨_, vs.toArray, _, hk, rfl, rfl, rfl, by simpa [hi.length] using hl, by simpa using rv⟩, fun b z => (z rfl).elim, fun z => (z rfl).elim, fun b u z => nomatch z⟩
    | none =>
      let o : Obj := { cls := .type "list", data := .seq vs.toArray }
      have at_ : ∀ b, (upd (fun _ => none) a (.frz o (.lst (ns.map V.int)))) b ≠ none → b = a := fun b z => by
        by_cases h : b = a
        · exact h
        · rw [upd_ne h] at z
          exact (z rfl).elim
      refine ⟨upd (fun _ => none) a (.frz o (.lst (ns.map V.int))), fun b => ?_, .inl (.inr ⟨o, upd_same⟩), at_, fun _ => rfl, fun b u z => ?_⟩
      · by_cases h : b = a
        · subst h
          exact .inr ⟨o, _, upd_same⟩
        · exact .inl (upd_ne h)
      · obtain rfl := at_ b (by rw [z]; simp)
        rw [upd_same] at z
        injection z with z
        subst z
        exact ⟨ha, by simpa using hl, vs, _, rv, ha⟩
  have noA : ∀ {b : Addr} {o : Obj} {es : Array DictEntry} {ep : Nat}, s₁.heap.get? b = some o → o.data = .dict es ep → H b = none := by
    intro b o es ep e d
    cases q : H b with
    | none => rfl
    | some u =>
      obtain rfl := hA b (by rw [q]; simp)
      rw [ha] at e
      injection e with e
      rw [← e] at d
      cases d
  have nsK : ∀ {b : Addr} {m : Str → Option Value}, s₁.heap.Ns b m → (hidT s₁.heap H).Ns b m := fun {b m} ⟨o, es, ep, e, d, r⟩ => ⟨o, es, ep, hidT_get e (noA e d), d, r⟩
  have hKb : K.In (hidT s₁.heap H) := fun b o e => hidT_get (KX b o e) (by
    cases q : H b with
    | none => rfl
    | some u =>
      obtain rfl := hA b (by rw [q]; simp)
      rw [hK (by rw [q]; simp)] at e
      cases e)
  have hM : Mod K mg (hidT s₁.heap H) := by
    obtain ⟨mc, h1, h2⟩ := hlim
    exact ⟨hKb, nsK hns, ⟨mb, nsK hb, hbb⟩, ⟨mc, nsK h1, h2⟩⟩
  have e0 : Env0 P w K mg (hidT s₁.heap H) callerA [] s₁ H :=
    ⟨rfl, hM, fun b o e => of_hidT e, Nat.le_of_eq (hidT_size _ _), trivial, fun b z => absurd (show b ∈ ([] : List Addr) from z) (by simp), hok, .of_eq hg⟩
  have go := (F _ hKb (nsK hns)).go callerA [] s₁ H ⟨[.ref a], []⟩ [.ref a] [.ref a] _ _ rfl hr e0 (hbi s₁ (.ref a)) (.cons rfl .nil) (hsp H hO hS)
  refine codeAny_mono go ?_
  rintro (e | (_ | _ | _ | u)) s' h
  · exact (show False from h).elim
  · exact (show False from h).elim
  · exact (show False from h).elim
  · exact (show False from h).elim
  · obtain ⟨v, H', os, bare, un, hok', r', rfl⟩ := h
    obtain rfl : u = Value.bool true := r'
    refine ⟨rfl, OldK.of_keep fun b o e => ?_, os, bare⟩
    cases q : H b with
    | none => exact un.keep b o e q (fun z => absurd (show b ∈ ([] : List Addr) from z) (by simp)) (by simp)
    | some u =>
      rcases hO b with z | ⟨ob, xs, z⟩
      · rw [q] at z
        cases z
      · have e1 := (hok b _ z).1
        rw [e] at e1
        rw [(hok' b _ (un.frzs b ob _ z)).1, ← e1]
theorem walk_G {l : PySem.W.OpenLaw} {n k : Nat} {q : Program} {loose : List Str} {XP : (Str → Option Value) → Heap → Prop} {YP : World → Heap → Prop} {d : DefRec} {K : Params → Fg} {sp : Fg → Sp} {x : Str}
    (hn : l.most = some n) (hn2 : n ≤ sizeLine) (hdf : d.params.defaults = []) (hr : Room k callerA) (hY : ∀ (w : World) (h : Heap), YP w h → (K w.params).In h)
    (F : ∀ (w : World) (mg : Str → Option Value) (fa : Addr) (h : Heap), (K w.params).In h → h.Ns mainGlobals mg → mg d.name = some (.ref fa) →
      ∃ fd : FuncData, (∀ (s : Shared) (u : Value), BindsTo s fd ⟨[u], []⟩ [(x, u)]) ∧ ∀ base : Heap, (K w.params).In base → base.Ns mainGlobals mg → FnG l.prog w (K w.params) mg base CX0 k fa fd [x] (sp (K w.params)))
    (hsp : ∀ (K : Fg) (H : Hp) (a : Addr) (ns : List Int), ns.length ≤ n → Only H → SqL K H a (ns.map V.int) → sp K [.ref a] H (fun v _ => v = .bl true) fun _ _ _ => False) :
    PySem.W.WalkO q loose XP YP l.row.toRowW d [] (fun f vs => PySem.call f vs) := by
  refine Att.attach_call hn hdf fun w s₀ s₁ mg mb fa o pm cd doc a vs ns G Y ho hd hcd hmg hobj hints hlen hg => ?_
  obtain ⟨fd, hb, hF⟩ := F w mg fa _ (hY w _ Y) G.T.g hmg
  exact head_call (hY w _ Y) G.T.g G.T.b G.T.builtins G.T.nolimit hg hobj hints (Nat.le_trans hlen hn2) hr hF hb fun H hO hS => hsp _ H a ns hlen hO hS

/-! ### data with dicts, and its repr -/
def keyD : Key → PyData
  | .inl i => .int i
  | .inr x => .str x
/-- a written list, new: it does not stand where sys.modules does -/
def tLstS (t : TA) : TE := fun σ H Q => t σ H fun xs H1 => xs.length ≤ sizeLine ∧ ∀ p, H1 p = none → p ≠ sysModules → Q (.ref p) (upd H1 p (.lst xs))
theorem pe_lstS {X : Cx} {es : List Expr} {pos : Pos} {t : TA} (h : PA X es t) : PE X (.List es pos) (tLstS t) := by
  constructor
  intro pins s σ H Q I hq
  apply wpAny_List_spliced
  apply thn (h.run pos pins s σ H _ I hq)
  rintro us s1 ⟨xs, H1, I1, r, z, q⟩
  have fr : H1 s1.heap.objs.size = none := I1.hok.fresh (Nat.le_refl _)
  have new : ObjOk X.prog X.w (upd H1 s1.heap.objs.size (.lst xs)) (s1.heap.push { cls := .type "list", data := .seq us.toArray }) s1.heap.objs.size (.lst xs) := ⟨z, us, 0, r, Heap.get?_push_size _ rfl⟩
  exact ⟨r.length ▸ z, V.ref _, _, I1.laid (t' := s1.toks) (fun _ _ => Heap.get?_push_of_some _) (Nat.le_refl _) new, rfl, q _ fr (Nat.ne_of_gt I1.big)⟩
mutual
inductive Dx (K : Fg) (H : Hp) : V → PyData → Prop
  | non : Dx K H .non .none
  | bl (b : Bool) : Dx K H (.bl b) (.bool b)
  | int (i : Int) : Dx K H (.int i) (.int i)
  | str (x : Str) : Dx K H (.str x) (.str x)
  | lst {a : Addr} {xs : List V} {ds : List PyData} : a ≠ sysModules → SqL K H a xs → DxAll K H xs ds → Dx K H (.ref a) (.list ds)
  | tup {a : Addr} {xs : List V} {ds : List PyData} : SqT K H a xs → DxAll K H xs ds → Dx K H (.ref a) (.tuple ds)
  | dic {a : Addr} {kvs : List (Key × V)} {ds : List PyData} : Rd H a (.dK kvs) → DxAll K H (kvs.map (·.2)) ds → Dx K H (.ref a) (.dict ((kvs.map fun p => keyD p.1).zip ds))
inductive DxAll (K : Fg) (H : Hp) : List V → List PyData → Prop
  | nil : DxAll K H [] []
  | cons {v : V} {vs : List V} {d : PyData} {ds : List PyData} : Dx K H v d → DxAll K H vs ds → DxAll K H (v :: vs) (d :: ds)
end
theorem DxAll.len {K : Fg} {H : Hp} : ∀ {vs : List V} {ds : List PyData}, DxAll K H vs ds → vs.length = ds.length
  | _, _, .nil => rfl
  | _, _, .cons _ t => congrArg (· + 1) t.len
theorem zip_fst {α β : Type} : ∀ {xs : List α} {ys : List β}, xs.length = ys.length → (xs.zip ys).map (·.1) = xs
  | [], [], _ => rfl
  | x :: xs, y :: ys, h => congrArg (x :: ·) (zip_fst (xs := xs) (ys := ys) (Nat.succ.inj h))
  | [], _ :: _, h => nomatch h
  | _ :: _, [], h => nomatch h
theorem zip_snd {α β : Type} : ∀ {xs : List α} {ys : List β}, xs.length = ys.length → (xs.zip ys).map (·.2) = ys
  | [], [], _ => rfl
  | x :: xs, y :: ys, h => congrArg (y :: ·) (zip_snd (xs := xs) (ys := ys) (Nat.succ.inj h))
  | [], _ :: _, h => nomatch h
  | _ :: _, [], h => nomatch h
section
variable {X : Cx} {pins : List (Addr × Obj)} {σ : L2.St} {H : Hp} {s : Shared}
theorem keys_read {h : Heap} : ∀ {es : List DictEntry} {vs : List (Key × Value)}, PySem.Pairs (mixKind X.prog X.w) es vs → ReadsAll h (es.map (·.key)) (vs.map fun p => keyD p.1) []
  | _, _, .nil => .nil
  | e :: es, (k, v) :: vs, .cons h1 _ t => by
    refine ReadsAll.cons (as := []) (bs := []) ?_ (keys_read t)
    rcases keyIs_shape (show keyIs k e.key = true from h1) with ⟨i, tk, rfl, q⟩ | ⟨x, tk, rfl, q⟩
    · show Reads h e.key (.int i) []
      rw [q]
      exact Reads.int i tk
    · show Reads h e.key (.str x) []
      rw [q]
      exact Reads.str x tk
theorem vals_of_pairs {P : Program} {w : World} : ∀ {es : List DictEntry} {vs : List (Key × Value)}, PySem.Pairs (mixKind P w) es vs → es.map (·.val) = vs.map (·.2)
  | _, _, .nil => rfl
  | e :: es, (k, v) :: vs, .cons _ h2 t => by
    rw [List.map_cons, List.map_cons, vals_of_pairs t, h2]
theorem kv_fst : ∀ {kvs : List (Key × V)} {vs : List (Key × Value)}, KV kvs vs → (kvs.map fun p => keyD p.1) = vs.map fun p => keyD p.1
  | _, _, .nil => rfl
  | _, _, .cons h t => by
    rw [List.map_cons, List.map_cons, kv_fst t, h.1]
theorem kv_snd : ∀ {kvs : List (Key × V)} {vs : List (Key × Value)}, KV kvs vs → Vals (kvs.map (·.2)) (vs.map (·.2))
  | _, _, .nil => .nil
  | _, _, .cons h t => .cons h.2 (kv_snd t)
mutual
theorem Dx.reads (I : Inv X pins σ H s) : ∀ (d : PyData) (v : V) (u : Value), Dx X.K H v d → RelV v u → ∃ as, Reads s.heap u d as ∧ sysModules ∉ as
  | .none, _, _, h, r => by
    cases h
    cases r
    exact ⟨_, Reads.none, by simp⟩
  | .bool b, _, _, h, r => by
    cases h
    cases r
    exact ⟨_, Reads.bool b, by simp⟩
  | .int i, _, _, h, r => by
    cases h
    obtain ⟨t, rfl⟩ := r
    exact ⟨_, Reads.int i t, by simp⟩
  | .str x, _, _, h, r => by
    cases h
    obtain ⟨t, rfl⟩ := r
    exact ⟨_, Reads.str x t, by simp⟩
  | .list ds, _, _, h, r => by
    cases h with
    | lst ne hs ha =>
      cases r
      obtain ⟨its, rv, ⟨o, n, ho, hc, _, hd⟩, _⟩ := I.list hs
      obtain ⟨as, hr, hn⟩ := Dx.readsAll I ds _ its ha rv
      exact ⟨_, Reads.list ho hc hd hr, fun z => (List.mem_cons.mp z).elim (fun e => ne e.symm) hn⟩
  | .tuple ds, _, _, h, r => by
    cases h with
    | tup hs ha =>
      cases r
      obtain ⟨its, rv, ⟨o, ho, hc, n, hd⟩, _⟩ := I.tuple hs
      obtain ⟨as, hr, hn⟩ := Dx.readsAll I ds _ its ha rv
      exact ⟨_, Reads.tuple ho hc hd hr, hn⟩
  | .dict ps, v, _, h, r => by
    generalize e : PyData.dict ps = d at h
    cases h with
    | dic hs ha =>
      rename_i a kvs ds
      injection e with e
      cases r
      obtain ⟨z, sm, vs, rel, o, es, ep, ho, hx, hd, _, hp, _⟩ := hs.ok I.hok
      have el : (kvs.map fun p => keyD p.1).length = ds.length := by
        rw [List.length_map, ← ha.len, List.length_map]
      have e2 : ps.map (·.2) = ds := by rw [e, zip_snd el]
      have ha' : DxAll X.K H (kvs.map (·.2)) (ps.map (·.2)) := by rw [e2]; exact ha
      obtain ⟨as, hr, hn⟩ := Dx.readsKv I ps _ _ ha' (kv_snd rel)
      subst e
      refine ⟨_, Reads.dict (as := []) (bs := as) ho hx.1 hd ?_ ?_, ?_⟩
      · rw [zip_fst el, kv_fst rel]
        exact keys_read hp
      · rw [vals_of_pairs hp]
        exact hr
      · intro q
        rcases List.mem_cons.mp q with q | q
        · subst q
          exact absurd sm (by simp)
        · exact hn (by simpa using q)
    | _ => nomatch e
theorem Dx.readsKv (I : Inv X pins σ H s) : ∀ (ps : List (PyData × PyData)) (vs : List V) (us : List Value), DxAll X.K H vs (ps.map (·.2)) → Vals vs us → ∃ as, ReadsAll s.heap us (ps.map (·.2)) as ∧ sysModules ∉ as
  | [], _, _, h, r => by
    cases h
    cases r
    exact ⟨_, ReadsAll.nil, by simp⟩
  | (k, d) :: ps, vs, us, h, r => by
    generalize e : ((k, d) :: ps).map (·.2) = l at h
    cases h with
    | nil => nomatch e
    | cons h1 h2 =>
      injection e with e1 e2
      subst e1
      subst e2
      cases r with
      | cons r1 r2 =>
        obtain ⟨as, q1, n1⟩ := Dx.reads I d _ _ h1 r1
        obtain ⟨bs, q2, n2⟩ := Dx.readsKv I ps _ _ h2 r2
        exact ⟨_, ReadsAll.cons q1 q2, fun z => (List.mem_append.mp z).elim n1 n2⟩
theorem Dx.readsAll (I : Inv X pins σ H s) : ∀ (ds : List PyData) (vs : List V) (us : List Value), DxAll X.K H vs ds → Vals vs us → ∃ as, ReadsAll s.heap us ds as ∧ sysModules ∉ as
  | [], _, _, h, r => by
    cases h
    cases r
    exact ⟨_, ReadsAll.nil, by simp⟩
  | d :: ds, _, _, h, r => by
    cases h with
    | cons h1 h2 =>
      cases r with
      | cons r1 r2 =>
        obtain ⟨as, q1, n1⟩ := Dx.reads I d _ _ h1 r1
        obtain ⟨bs, q2, n2⟩ := Dx.readsAll I ds _ _ h2 r2
        exact ⟨_, ReadsAll.cons q1 q2, fun z => (List.mem_append.mp z).elim n1 n2⟩
end
end
/-- it may be shown: small enough, its ints short -/
structure Fit (d : PyData) : Prop where
  sh : d.showable = true
  lv : d.leavesShort 40 = true
  bk : d.bulk ≤ 300000
  dp : d.depth ≤ 30
theorem Fit.len {d : PyData} (h : Fit d) : d.shown.length ≤ sizeLine := by
  have h1 := PyData.shown_le_bulk 40 (by decide) d h.lv
  have h2 := h.bk
  have h3 : sizeLine = 16777216 := rfl
  omega
def rRepr (K : Fg) : List V → Hp → VK → Prop := fun xs H Q => ∃ x d, xs = [x] ∧ Dx K H x d ∧ Fit d ∧ Q (.str d.shown) H
theorem call_repr {X : Cx} (hG : X.A.guards = some []) (hu : X.A.units + 64 < cLine) : CallR X (.builtin "repr") (rRepr X.K) := by
  rintro pins s σ H xs us Q I r ⟨x, d, rfl, hd, hf, q⟩
  cases r with
  | cons rx r' =>
    cases r'
    obtain ⟨as, hr, hn⟩ := Dx.reads I d _ _ hd rx
    have sz := hf.len
    have out : ∀ (h' : Heap) (u tk : Tok), (∀ b o, s.heap.get? b = some o → h'.get? b = some o) → EP X pins σ Q (.str d.shown u) { s with heap := h', toks := tk } :=
      fun h' u tk k => ⟨.str d.shown, H, I.kept (t' := tk) k, ⟨u, rfl⟩, q⟩
    have out0 : EP X pins σ Q (.str d.shown s.toks) { s with toks := s.toks + 1 } := ⟨.str d.shown, H, I.tok _, ⟨_, rfl⟩, q⟩
    have dp := hf.dp
    cases hd with
    | non =>
      cases rx
      exact PySem.P.repr_of_none (by rw [show PyData.shown .none = ("None" : Str) by simp only [PyData.shown]] at out0; exact out0)
    | bl b =>
      cases rx
      exact PySem.P.repr_of_bool (by rw [show PyData.shown (.bool b) = (if b then "True" else "False" : Str) by simp only [PyData.shown]] at out0; exact out0)
    | int i =>
      obtain ⟨t, rfl⟩ := rx
      have sh : i.natAbs.log2 < 1920 := by simpa only [PyData.showable, decide_eq_true_eq] using hf.sh
      exact PySem.P.repr_of_int sh (by rw [show PyData.shown (.int i) = ((toString i : String) : Str) by simp only [PyData.shown]] at out0; exact out0)
    | str z =>
      obtain ⟨t, rfl⟩ := rx
      have e : PyData.shown (.str z) = reprText z := by simp only [PyData.shown]
      rw [e] at out0 sz
      exact PySem.P.repr_of_str out0 sz
    | lst => cases rx; exact repr_of_reads' hr hf.sh (fun _ => hn) hG (by omega) (fun _ _ e => e) out sz
    | tup => cases rx; exact repr_of_reads' hr hf.sh (fun _ => hn) hG (by omega) (fun _ _ e => e) out sz
    | dic => cases rx; exact repr_of_reads' hr hf.sh (fun _ => hn) hG (by omega) (fun _ _ e => e) out sz
/-! ### comprehensions whose elements change nothing -/
/-- what the reading of a comprehension asks once its new list stands at D -/
abbrev LcB (J : It) (g : TG) (tt : TT) (te : TE) (own : List Nat) (σ : L2.St) (H1 : Hp) (D : Addr) (Qd : Hp → Prop) : Prop :=
  ∃ U : Nat → Nat → Hp → Prop, (∃ k, U 0 k (upd H1 D (.lst []))) ∧ ∀ j k G, U j k G → (J.stop j G ∧ Qd G) ∨
    (J.go j G ∧ ∃ Z : Hp → Prop, (∀ G', Z G' → ∃ k', k' < k ∧ U (j + 1) k' G') ∧ ∀ y G', J.yld j G y G' → g y (wipe σ own) G' fun σ' G2 => wipe σ' own = wipe σ own ∧
      tt σ' G2 fun c G3 => if c = true then te σ' G3 fun r G4 => ∃ got, G4 D = some (.lst got) ∧ got.length < sizeLine ∧ Z (upd G4 D (.lst (got ++ [r]))) else Z G3)
theorem small_line {n : Nat} (h : n ≤ 1000000) : n < sizeLine := Nat.lt_of_le_of_lt h (by decide)
/-- over a text, each element made of its sign alone -/
theorem lc_str {z : Str} {σ : L2.St} {H : Hp} {v : Nat} {te : TE} {D : Addr} {Qd : Hp → Prop} (f : Nat → V) (hz : z.length ≤ 100000)
    (hte : ∀ (c : Nat) (G : Hp) (R : VK), c ∈ z.cps.toList → R (f c) G → te ((wipe σ [v]).set v (some (.str ⟨#[c]⟩))) G R) (h : Qd (upd H D (.lst (z.cps.toList.map f)))) :
    LcB (Its z) (gName v) tYes te [v] σ H D Qd := by
  refine lc_it (walk_str (z := z)) (fun i G => G = upd H D (.lst ((z.cps.toList.take i).map f))) rfl (fun _ _ _ _ => trivial) ?_ ?_
  · rintro i x H1 H2 hi rfl ⟨rfl, c, hc, rfl⟩
    have hc' : z.cps.toList[i]? = some c := by rw [Array.getElem?_toList]; exact hc
    have hm : c ∈ z.cps.toList := List.mem_of_getElem? hc'
    refine ⟨?_, ?_⟩
    · show wipe ((wipe σ [v]).set v _) [v] = _
      simp [wipe]
    · refine hte c _ _ hm ⟨_, upd_same, ?_, ?_⟩
      · rw [List.length_map, List.length_take]
        have : z.cps.toList.length = z.length := by simp [Str.length]
        exact small_line (by omega)
      · rw [upd_upd, List.take_add_one, hc', List.map_append]
        rfl
  · rintro H' rfl
    have e : z.cps.toList.take z.cps.size = z.cps.toList := List.take_of_length_le (by simp)
    rw [e]
    exact h
/-- over range(n), the heap turned by each element: Pv by what is made so far -/
theorem lc_rng {n : Nat} {σ : L2.St} {H : Hp} {v : Nat} {te : TE} {D : Addr} {Qd : Hp → Prop} (Pv : Nat → List V → Hp → Prop) (hn : n ≤ 100000) (h0 : Pv 0 [] (upd H D (.lst [])))
    (hte : ∀ (i : Nat) (xs : List V) (G : Hp) (R : VK), i < n → Pv i xs G → xs.length = i → G D = some (.lst xs) →
      (∀ y G', G' D = some (.lst xs) → Pv (i + 1) (xs ++ [y]) (upd G' D (.lst (xs ++ [y]))) → R y G') → te ((wipe σ [v]).set v (some (.int (0 + (i : Nat))))) G R)
    (h : ∀ xs G, xs.length = n → G D = some (.lst xs) → Pv n xs G → Qd G) :
    LcB (Itr 0 n) (gName v) tYes te [v] σ H D Qd := by
  refine lc_it (walk_range (lo := 0) (n := n)) (fun i G => ∃ xs : List V, xs.length = i ∧ G D = some (.lst xs) ∧ Pv i xs G) ⟨[], rfl, upd_same, h0⟩ (fun _ _ _ _ => trivial) ?_ ?_
  · rintro i x H1 H2 hi ⟨xs, hl, hD, hp⟩ ⟨rfl, rfl⟩
    refine ⟨?_, ?_⟩
    · show wipe ((wipe σ [v]).set v _) [v] = _
      simp [wipe]
    · refine hte i xs _ _ hi hp hl hD fun y G' hD' hp' => ⟨xs, hD', small_line (by omega), xs ++ [y], ?_, upd_same, hp'⟩
      rw [List.length_append, hl]
      rfl
  · rintro G ⟨xs, hl, hD, hp⟩
    exact h xs G hl hD hp
/-- data that is no text -/
inductive Oth (H : Hp) : V → Prop where
  | non : Oth H .non
  | bl (b : Bool) : Oth H (.bl b)
  | int (i : Int) : Oth H (.int i)
  | lst {a : Addr} {xs : List V} (e : H a = some (.lst xs)) : Oth H (.ref a)
  | tup {a : Addr} {xs : List V} (e : H a = some (.tup xs)) : Oth H (.ref a)
  | dic {a : Addr} {kvs : List (Key × V)} (e : H a = some (.dK kvs)) : Oth H (.ref a)
theorem Oth.same {H H' : Hp} {x : V} (h : Oth H x) (s : Same H H') : Oth H' x := by
  cases h with
  | non => exact .non
  | bl b => exact .bl b
  | int i => exact .int i
  | lst e => exact .lst (s _ _ e)
  | tup e => exact .tup (s _ _ e)
  | dic e => exact .dic (s _ _ e)
theorem Oth.ty {K : Fg} {H : Hp} {x : V} (h : Oth H x) : ∃ t, TyX K H x t ∧ PySem.W.kitOne K t (.type "str") = some false := by
  cases h with
  | non => exact ⟨_, .base .non, kit_ty (by decide +kernel)⟩
  | bl b => exact ⟨_, .base (.bl b), kit_ty (by decide +kernel)⟩
  | int i => exact ⟨_, .base (.int i), kit_ty (by decide +kernel)⟩
  | lst e => exact ⟨_, .base (.lst e), kit_ty (by decide +kernel)⟩
  | tup e => exact ⟨_, .base (.tup e), kit_ty (by decide +kernel)⟩
  | dic e => exact ⟨_, .base (.dK e), kit_ty (by decide +kernel)⟩
theorem str_ty {K : Fg} {H : Hp} (z : Str) : ∃ t, TyX K H (.str z) t ∧ PySem.W.kitOne K t (.type "str") = some true := ⟨_, .base (.str z), kit_ty (by decide +kernel)⟩
theorem same_new {H : Hp} {p : Addr} {o : HO} (h : H p = none) : Same H (upd H p o) := fun b x e => (upd_ne (ne_of_none e h)).trans e

/-! ### evaluations: more of them -/
section
open Evl
variable {K : Fg} {σ : L2.St} {H H' : Hp} {ta tb tc te : TE} {t u : TT} {x y z v : V}
/-- a new list that does not stand where sys.modules does -/
def EvM (te : TE) (σ : L2.St) (H : Hp) (xs : List V) : Prop := ∀ H1, Ex H H1 → ∀ Q : VK, (∀ p H2, H1 p = none → p ≠ sysModules → Ex H1 H2 → H2 p = some (.lst xs) → Q (.ref p) H2) → te σ H1 Q
theorem EvM.l {xs : List V} (h : EvM te σ H xs) : EvL te σ H xs := fun H1 e Q q => h H1 e Q fun p H2 a _ b c => q p H2 a b c
theorem em_lst {ta : TA} {vs : List V} (h : EvA ta σ H vs) (hl : vs.length ≤ 100000) : EvM (tLstS ta) σ H vs := fun H1 e _ q =>
  h H1 e _ fun H2 e2 => ⟨sz_of hl, fun p hp ne => q p _ (fresh_back e2 hp) ne (e2.trans (Ex.new hp)) upd_same⟩
theorem ev_chain {a b c : Int} {p q : Int → Int → Bool} (ha : Ev ta σ H (.int a)) (hb : Ev tb σ H (.int b)) (hc : Ev tc σ H (.int c)) :
    Ev (tChain (rI0 fun i j => .bl (p i j)) (rI0 fun i j => .bl (q i j)) ta tb tc) σ H (.bl (p a b && q b c)) := fun H1 e Q k =>
  ha H1 e _ fun H2 e2 => hb H2 (e.trans e2) _ fun H3 e3 => ⟨a, b, rfl, rfl, p a b, rfl, by
    have k' := fun G (g : Ex H3 G) => k G ((e2.trans e3).trans g)
    cases h : p a b with
    | true =>
      rw [h] at k'
      exact iteT (hc H3 ((e.trans e2).trans e3) _ fun H4 e4 => ⟨b, c, rfl, rfl, k' H4 e4⟩)
    | false =>
      rw [h] at k'
      exact iteF (k' H3 (Ex.refl _))⟩
theorem ev_isiS {n : String} {b : Bool} {z : Str} (ha : Ev ta σ H (.str z)) (hk : PySem.W.kitOne K (.type "str") (.type n) = some b) : Ev (tCB (rIsi K) (tCons ta (tCons (tC (.ty n)) tNil))) σ H (.bl b) := fun H1 e Q q =>
  ha H1 e _ fun H2 e2 => ⟨_, .ty n, _, _, b, rfl, .ty n, .base (.str z), hk, q H2 e2⟩
theorem ev_isiO (ha : Ev ta σ H x) (ho : Oth H x) : Ev (tCB (rIsi K) (tCons ta (tCons (tC (.ty "str")) tNil))) σ H (.bl false) := fun H1 e Q q =>
  ha H1 e _ fun H2 e2 => by
    obtain ⟨t, ty, kt⟩ := (ho.same (H' := H2) (e.trans e2)).ty (K := K)
    exact ⟨x, .ty "str", t, _, false, rfl, .ty "str", ty, kt, q H2 e2⟩
theorem ev_lenS {z : Str} (ha : Ev ta σ H (.str z)) (hz : z.length ≤ 100000) : Ev (tCB (fun xs H Q => ∃ a : Str, xs = [.str a] ∧ a.length ≤ sizeLine ∧ Q (.int a.length) H) (tCons ta tNil)) σ H (.int (z.length : Int)) := fun H1 e Q q =>
  ha H1 e _ fun H2 e2 => ⟨z, rfl, sz_of hz, q H2 e2⟩
theorem rv_inS {c : Nat} {z : Str} : RV (fun x y H Q => ∃ (c : Nat) (z : Str), x = .str ⟨#[c]⟩ ∧ y = .str z ∧ Q (.bl (decide (c ∈ z.cps.toList))) H) (.str ⟨#[c]⟩) (.str z) H (.bl (decide (c ∈ z.cps.toList))) :=
  fun H1 _ _ q => ⟨c, z, rfl, rfl, q H1 (Ex.refl H1)⟩
/-- a comprehension over a text: which signs give, and what -/
theorem el_lcS {z : Str} {j : Nat} {vs : List Nat} (f : Nat → Bool) (g : Nat → V) (h : Ev te σ H (.str z)) (hz : z.length ≤ 40000) (hw : ∀ x, wipe ((wipe σ vs).set j (some x)) vs = wipe σ vs)
    (ht : ∀ (c : Nat) H1, Ex H H1 → c ∈ z.cps.toList → EvT t ((wipe σ vs).set j (some (.str ⟨#[c]⟩))) H1 (f c)) (he : ∀ (c : Nat) H1, Ex H H1 → c ∈ z.cps.toList → f c = true → Ev ta ((wipe σ vs).set j (some (.str ⟨#[c]⟩))) H1 (g c)) :
    EvL (tLc (iStr te) (gName j) t ta vs) σ H ((z.cps.toList.filter f).map g) := fun H0 e Q q => h H0 e _ fun H1 e1 => ⟨z, rfl, fun D hD =>
  lc_it (walk_str (z := z)) (fun i G => Ex H1 G ∧ G D = some (.lst (((z.cps.toList.take i).filter f).map g))) ⟨Ex.new hD, upd_same⟩ (fun _ _ _ _ => trivial) (by
    rintro i x G1 G2 hi ⟨eG, hG⟩ ⟨rfl, c, hc, rfl⟩
    have hc' : z.cps.toList[i]? = some c := by rw [Array.getElem?_toList]; exact hc
    have hm : c ∈ z.cps.toList := List.mem_of_getElem? hc'
    refine ⟨hw _, ht c _ (e.trans e1) hm G2 eG _ fun G3 e3 => ?_⟩
    cases hf : f c with
    | true =>
      refine iteT (he c _ (e.trans e1) hm hf G3 (eG.trans e3) _ fun G4 e4 => ⟨_, e4 D _ (e3 D _ hG), ?_, Ex.mut ((eG.trans e3).trans e4) hD, ?_⟩)
      · have h1 := List.length_filter_le f (z.cps.toList.take i)
        rw [List.length_take] at h1
        rw [List.length_map]
        have h2 : z.cps.toList.length = z.length := by simp [Str.length]
        exact sz_lt (by omega)
      · rw [upd_same, List.take_add_one, hc', List.filter_append, List.map_append]
        simp [hf]
    | false =>
      refine iteF ⟨eG.trans e3, ?_⟩
      rw [e3 D _ hG, List.take_add_one, hc', List.filter_append]
      simp [hf]) (by
    rintro G ⟨eG, hG⟩
    have e9 : z.cps.toList.take z.cps.size = z.cps.toList := List.take_of_length_le (by simp)
    rw [e9] at hG
    exact q D G (fresh_back e1 hD) (e1.trans eG) hG)⟩
theorem et_yes : EvT tYes σ H true := fun H1 _ _ q => q H1 (Ex.refl H1)
theorem ev_all {bs : List Bool} (h : EvL te σ H (bs.map V.bl)) : Ev (tCB (rAll K) (tCons te tNil)) σ H (.bl (bs.all id)) := fun H1 e Q q =>
  h H1 e _ fun p H2 _ e2 h2 => ⟨p, bs, rfl, sq_of h2, q H2 e2⟩
theorem ev_any {bs : List Bool} (h : EvL te σ H (bs.map V.bl)) : Ev (tCB (rAny K) (tCons te tNil)) σ H (.bl (bs.any id)) := fun H1 e Q q =>
  h H1 e _ fun p H2 _ e2 h2 => ⟨p, bs, rfl, sq_of h2, q H2 e2⟩
/-- all(p(c) for every sign c) -/
theorem ev_allS {z : Str} {j : Nat} {vs : List Nat} (f : Nat → Bool) (h : Ev te σ H (.str z)) (hz : z.length ≤ 40000) (hw : ∀ x, wipe ((wipe σ vs).set j (some x)) vs = wipe σ vs)
    (he : ∀ (c : Nat) H1, Ex H H1 → c ∈ z.cps.toList → Ev ta ((wipe σ vs).set j (some (.str ⟨#[c]⟩))) H1 (.bl (f c))) :
    Ev (tCB (rAll K) (tCons (tLc (iStr te) (gName j) tYes ta vs) tNil)) σ H (.bl (z.cps.toList.all f)) := by
  have h1 := el_lcS (t := tYes) (fun _ => true) (fun c => .bl (f c)) h hz hw (fun _ _ _ _ => et_yes) fun c H1 e m _ => he c H1 e m
  rw [List.filter_eq_self.mpr fun _ _ => rfl, show (z.cps.toList.map fun c => V.bl (f c)) = (z.cps.toList.map f).map V.bl by rw [List.map_map]; rfl] at h1
  have h2 := ev_all (K := K) h1
  rw [List.all_map] at h2
  exact h2
theorem Dx.same {d : PyData} (e : Ex H H') : Dx K H v d → Dx K H' v d := by
  intro h
  induction h using Dx.rec (motive_2 := fun vs ds _ => DxAll K H' vs ds) with
  | non => exact .non
  | bl b => exact .bl b
  | int i => exact .int i
  | str x => exact .str x
  | lst ne hs _ ih => exact .lst ne (ex_l e hs) ih
  | tup hs _ ih => exact .tup (ex_t e hs) ih
  | dic hs _ ih => exact .dic (ex_rd e hs) ih
  | nil => exact .nil
  | cons _ _ h1 h2 => exact .cons h1 h2
theorem DxAll.same {vs : List V} {ds : List PyData} (e : Ex H H') : DxAll K H vs ds → DxAll K H' vs ds
  | .nil => .nil
  | .cons a b => .cons (a.same e) (b.same e)
theorem ev_repr {d : PyData} (h : Ev te σ H v) (hd : Dx K H v d) (hf : Fit d) : Ev (tCB (rRepr K) (tCons te tNil)) σ H (.str d.shown) := fun H1 e Q q =>
  h H1 e _ fun H2 e2 => ⟨v, d, rfl, hd.same (e.trans e2), hf, q H2 e2⟩
/-- repr of a written list -/
theorem ev_reprL {xs : List V} {ds : List PyData} (h : EvM te σ H xs) (hd : DxAll K H xs ds) (hf : Fit (.list ds)) : Ev (tCB (rRepr K) (tCons te tNil)) σ H (.str (PyData.list ds).shown) := fun H1 e Q q =>
  h H1 e _ fun p H2 _ ne e2 hp => ⟨.ref p, _, rfl, .lst ne (sq_of hp) (hd.same (e.trans e2)), hf, q H2 e2⟩
end
section
open Evl
variable {σ : L2.St} {H : Hp} {ta tb : TE}
theorem dI {a b : Int} : decide (V.int a = V.int b) = decide (a = b) := decide_eq_decide.mpr ⟨V.int.inj, congrArg _⟩
theorem dS {a b : Str} : decide (V.str a = V.str b) = decide (a = b) := decide_eq_decide.mpr ⟨V.str.inj, congrArg _⟩
theorem ev_eqI {a b : Int} (ha : Ev ta σ H (.int a)) (hb : Ev tb σ H (.int b)) : Ev (tOp rEq ta tb) σ H (.bl (decide (a = b))) := ev_is (ev_op ha hb (rv_eq rfl)) (by rw [dI])
theorem ev_neI {a b : Int} (ha : Ev ta σ H (.int a)) (hb : Ev tb σ H (.int b)) : Ev (tOp rNe ta tb) σ H (.bl (!decide (a = b))) := ev_is (ev_op ha hb (rv_ne rfl)) (by rw [dI])
theorem ev_eqS {a b : Str} (ha : Ev ta σ H (.str a)) (hb : Ev tb σ H (.str b)) : Ev (tOp rEq ta tb) σ H (.bl (decide (a = b))) := ev_is (ev_op ha hb (rv_eq rfl)) (by rw [dS])
theorem ev_neS {a b : Str} (ha : Ev ta σ H (.str a)) (hb : Ev tb σ H (.str b)) : Ev (tOp rNe ta tb) σ H (.bl (!decide (a = b))) := ev_is (ev_op ha hb (rv_ne rfl)) (by rw [dS])
end
theorem fit_bools (bs : List Bool) (h : bs.length ≤ 1000) : Fit (.list (bs.map PyData.bool)) := by
  have h1 : PyData.showableAll (bs.map PyData.bool) = true := by
    clear h
    induction bs with
    | nil => rfl
    | cons b r ih => simp [PyData.showableAll, PyData.showable, ih]
  have h2 : PyData.leavesShortAll 40 (bs.map PyData.bool) = true := by
    clear h h1
    induction bs with
    | nil => rfl
    | cons b r ih => simp [PyData.leavesShortAll, PyData.leavesShort, ih]
  have h3 : PyData.bulkAll (bs.map PyData.bool) = bs.length := by
    clear h h1 h2
    induction bs with
    | nil => rfl
    | cons b r ih => simp [PyData.bulkAll, PyData.bulk, ih]; omega
  have h4 : PyData.depthAll (bs.map PyData.bool) = 0 := by
    clear h h1 h2 h3
    induction bs with
    | nil => rfl
    | cons b r ih => simp [PyData.depthAll, PyData.depth, ih]
  exact ⟨by simpa [PyData.showable] using h1, by simpa [PyData.leavesShort] using h2, by simp only [PyData.bulk, h3]; omega, by simp only [PyData.depth, h4]; omega⟩
theorem dx_bools {K : Fg} {H : Hp} : ∀ bs : List Bool, DxAll K H (bs.map V.bl) (bs.map PyData.bool)
  | [] => .nil
  | b :: r => .cons (.bl b) (dx_bools r)

section
open Evl
variable {K : Fg} {σ : L2.St} {H H' : Hp} {te : TE} {D : Ends} {tz : TS}
theorem s_asgM {i : Nat} {xs : List V} (h : EvM te σ H xs) (k : ∀ p H1, H p = none → p ≠ sysModules → Ex H H1 → H1 p = some (.lst xs) → D.nx (σ.set i (some (.ref p))) H1) : tAsg te (gName i) D σ H :=
  h H (Ex.refl H) _ fun p H1 hp ne e h1 => k p H1 hp ne e h1
theorem q_asgM {i : Nat} {xs : List V} (h : EvM te σ H xs) (k : ∀ p H1, H p = none → p ≠ sysModules → Ex H H1 → H1 p = some (.lst xs) → tz D (σ.set i (some (.ref p))) H1) : tSeq (tAsg te (gName i)) tz D σ H :=
  s_asgM (D := { D with nx := tz D }) h k
end
/-! ### a text, or another thing -/
inductive TStr (H : Hp) : V → Bool → Prop where
  | s (z : Str) (hz : z.length ≤ 1000) : TStr H (.str z) true
  | o {x : V} (h : Oth H x) : TStr H x false
def zof : V → Str
  | .str z => z
  | _ => ⟨#[]⟩
theorem TStr.same {H H' : Hp} {x : V} {b : Bool} (h : TStr H x b) (s : Same H H') : TStr H' x b := by
  cases h with
  | s z hz => exact .s z hz
  | o h => exact .o (h.same s)
theorem TStr.eq {H : Hp} {x : V} (h : TStr H x true) : x = .str (zof x) ∧ (zof x).length ≤ 1000 := by
  cases h with
  | s z hz => exact ⟨rfl, hz⟩
section
open Evl
variable {K : Fg} {σ : L2.St} {H H' : Hp} {ta : TE}
theorem ev_isiX {x : V} {b : Bool} (ha : Ev ta σ H x) (hx : TStr H x b) : Ev (tCB (rIsi K) (tCons ta (tCons (tC (.ty "str")) tNil))) σ H (.bl b) := by
  cases hx with
  | s z hz => exact ev_isiS ha (kit_ty (by decide +kernel))
  | o h => exact ev_isiO ha h
end

/-! ### texts of low signs -/
/-- a text of at most n signs, all low -/
structure Lo (z : Str) (n : Nat) : Prop where
  len : z.length ≤ n
  low : ∀ c ∈ z.cps.toList, c < 1000
theorem Lo.up {z : Str} {n m : Nat} (h : Lo z n) (le : n ≤ m) : Lo z m := ⟨Nat.le_trans h.len le, h.low⟩
theorem lo_by {z : Str} {n : Nat} (h : (decide (z.length ≤ n) && z.cps.toList.all fun c => decide (c < 1000)) = true) : Lo z n := by
  simp only [Bool.and_eq_true, decide_eq_true_eq, List.all_eq_true] at h
  exact ⟨h.1, h.2⟩
theorem Lo.app {y z : Str} {n m : Nat} (hy : Lo y n) (hz : Lo z m) : Lo (y ++ z) (n + m) := by
  refine ⟨?_, fun c hc => ?_⟩
  · rw [strLen_append]
    have := hy.len
    have := hz.len
    omega
  · rcases mem_cps_append.mp hc with h | h
    · exact hy.low c h
    · exact hz.low c h
theorem Lo.cut {z : Str} {n : Nat} (h : Lo z n) (lo hi : Option Int) : Lo (cutS z lo hi) n :=
  ⟨Nat.le_trans (cutS_length z lo hi) h.len, fun c hc => h.low c (List.mem_of_mem_drop (List.mem_of_mem_take (by simpa [cutS] using hc)))⟩
theorem Lo.sign {z : Str} {n c : Nat} (h : Lo z n) (hc : c ∈ z.cps.toList) : Lo ⟨#[c]⟩ 1 := ⟨Nat.le_refl 1, fun d hd => by
  have e : d = c := by simpa using hd
  rw [e]
  exact h.low c hc⟩
theorem Lo.fit {z : Str} {n : Nat} (h : Lo z n) (hn : n ≤ 200000) : Fit (.str z) := by
  refine ⟨by simp [PyData.showable], ?_, ?_, by simp [PyData.depth]⟩
  · simp only [PyData.leavesShort, List.all_eq_true, decide_eq_true_eq]
    exact fun c hc => Nat.lt_trans (h.low c hc) (by decide)
  · have h1 := h.len
    have e : z.length = z.cps.size := rfl
    simp only [PyData.bulk]
    omega
theorem tl_eq (z : Str) : TL.tl z = z.cps.toList := rfl
theorem joinL_nil : ∀ ls : List (List Nat), TL.joinL [] ls = ls.flatten
  | [] => rfl
  | [p] => by simp [TL.joinL]
  | p :: q :: r => by
    have ih := joinL_nil (q :: r)
    show p ++ ([] ++ TL.joinL [] (q :: r)) = _
    rw [ih]
    simp
theorem join_codes (ys : List Str) : (Txt.join ⟨#[]⟩ ys).cps.toList = (ys.map fun y => y.cps.toList).flatten := by
  rw [TL.join_eq]
  show TL.tl _ = _
  rw [TL.tl_join, show TL.tl ⟨#[]⟩ = [] from rfl, joinL_nil]
theorem flat_len {ls : List (List Nat)} {m : Nat} (h : ∀ l ∈ ls, l.length ≤ m) : ls.flatten.length ≤ m * ls.length := by
  induction ls with
  | nil => simp
  | cons l r ih =>
    have h1 := h l (List.mem_cons_self ..)
    have h2 := ih fun x hx => h x (List.mem_cons_of_mem _ hx)
    rw [List.flatten_cons, List.length_append, List.length_cons, Nat.mul_succ]
    omega
theorem lo_join {ys : List Str} {m n : Nat} (h : ∀ y ∈ ys, Lo y m) (hn : ys.length ≤ n) : Lo (Txt.join ⟨#[]⟩ ys) (m * n) := by
  refine ⟨?_, fun c hc => ?_⟩
  · have e : (Txt.join ⟨#[]⟩ ys).length = ((ys.map fun y => y.cps.toList).flatten).length := by rw [← join_codes]; simp [Str.length]
    rw [e]
    refine Nat.le_trans (flat_len (m := m) fun l hl => ?_) ?_
    · obtain ⟨y, hy, rfl⟩ := List.mem_map.mp hl
      have := (h y hy).len
      simpa [Str.length] using this
    · rw [List.length_map]
      exact Nat.mul_le_mul_left m hn
  · rw [join_codes] at hc
    obtain ⟨l, hl, hc⟩ := List.mem_flatten.mp hc
    obtain ⟨y, hy, rfl⟩ := List.mem_map.mp hl
    exact (h y hy).low c hc
theorem sum_le {ys : List Str} {m : Nat} (h : ∀ y ∈ ys, y.length ≤ m) : (ys.map (·.length)).sum ≤ m * ys.length := by
  induction ys with
  | nil => simp
  | cons y r ih =>
    have h1 := h y (List.mem_cons_self ..)
    have h2 := ih fun x hx => h x (List.mem_cons_of_mem _ hx)
    rw [List.map_cons, List.sum_cons, List.length_cons, Nat.mul_succ]
    omega
def fitB (d : PyData) : Bool := d.showable && (d.leavesShort 40 && (decide (d.bulk ≤ 300000) && decide (d.depth ≤ 30)))
theorem fit_of {d : PyData} (h : fitB d = true) : Fit d := by
  unfold fitB at h
  simp only [Bool.and_eq_true, decide_eq_true_eq] at h
  exact ⟨h.1, h.2.1, h.2.2.1, h.2.2.2⟩
section
open Evl
variable {σ : L2.St} {H : Hp} {ta tb : TE}
theorem ev_addS {a b : Str} (ha : Ev ta σ H (.str a)) (hb : Ev tb σ H (.str b)) (hz : a.length + b.length ≤ 100000) :
    Ev (tOp (fun x y H Q => ∃ i j : Str, x = .str i ∧ y = .str j ∧ i.length + j.length ≤ sizeLine ∧ Q (.str (i ++ j)) H) ta tb) σ H (.str (a ++ b)) := fun H1 e Q q =>
  ha H1 e _ fun H2 e2 => hb H2 (e.trans e2) _ fun H3 e3 => ⟨a, b, rfl, rfl, sz_of hz, q H3 (e2.trans e3)⟩
end

/-! ### drawing -/
def PM : Int := 2305843009213693951
theorem pP : (0 : Int) < 2305843009213693951 := by decide
theorem pP2 : (0 : Int) < 2305843009213693921 := by decide
/-- a bag at b: digits, a seed, how often it was asked (at most n) -/
def BagAt (H : Hp) (b : Addr) (n : Nat) : Prop := ∃ d x c : Int, H b = some (.lst [.int d, .int x, .int c]) ∧ 0 ≤ d ∧ 0 ≤ x ∧ x < PM ∧ 0 ≤ c ∧ c ≤ n
theorem BagAt.up {H : Hp} {b : Addr} {n m : Nat} (h : BagAt H b n) (le : n ≤ m) : BagAt H b m := by
  obtain ⟨d, x, c, e, h1, h2, h3, h4, h5⟩ := h
  exact ⟨d, x, c, e, h1, h2, h3, h4, by omega⟩
theorem BagAt.to {H H' : Hp} {b : Addr} {n : Nat} (h : BagAt H b n) (e : H' b = H b) : BagAt H' b n := by
  obtain ⟨d, x, c, q, r⟩ := h
  exact ⟨d, x, c, e.trans q, r⟩
theorem BagAt.same {H H' : Hp} {b : Addr} {n : Nat} (h : BagAt H b n) (s : Same H H') : BagAt H' b n := by
  obtain ⟨d, x, c, q, r⟩ := h
  exact ⟨d, x, c, s _ _ q, r⟩
/-- nothing but b was touched -/
def But (b : Addr) (H H' : Hp) : Prop := ∀ p, p ≠ b → H' p = H p
def spBag (K : Fg) : Sp := fun vs H Q _ => ∃ (a : Addr) (ns : List Int) (i : Nat), vs = [.ref a, .int i] ∧ SqL K H a (ns.map V.int) ∧ i ≤ 100 ∧
  ∀ p H', H p = none → BagAt H' p 0 → Same H H' → Q (.ref p) H'
def spTake : Sp := fun vs H Q _ => ∃ (b : Addr) (m : Int) (n : Nat), vs = [.ref b, .int m] ∧ BagAt H b n ∧ n ≤ 1000000000 ∧ 0 < m ∧ m < 1000000 ∧
  ∀ (r : Int) (H' : Hp), 0 ≤ r → r < m → BagAt H' b (n + 1) → But b H H' → Q (.int r) H'

/-- the drawing part of a state: all of M stands, the bag stands at b beside it -/
structure Dr (M : Hp) (b : Addr) (n : Nat) (H : Hp) : Prop where
  same : Same M H
  fr : M b = none
  bag : BagAt H b n
section
variable {M : Hp} {b p : Addr} {n m : Nat} {H H' : Hp} {o : HO}
theorem Dr.ne (h : Dr M b n H) (q : H p = none) : p ≠ b := by
  obtain ⟨d, x, c, e, _⟩ := h.bag
  exact (ne_of_none e q).symm
theorem Dr.neM (h : Dr M b n H) {x : Addr} {u : HO} (q : M x = some u) : x ≠ b := ne_of_none q h.fr
theorem Dr.take (h : Dr M b n H) (hb : BagAt H' b m) (ht : But b H H') : Dr M b m H' :=
  ⟨fun x u e => (ht x (h.neM e)).trans (h.same x u e), h.fr, hb⟩
theorem Dr.on (h : Dr M b n H) (s : Same H H') : Dr M b n H' := ⟨h.same.trans s, h.fr, h.bag.same s⟩
theorem Dr.new (h : Dr M b n H) (q : H p = none) : Dr (upd M p o) b n (upd H p o) := by
  refine ⟨fun x u e => ?_, ?_, h.bag.to (upd_ne (h.ne q).symm)⟩
  · by_cases hx : x = p
    · subst hx
      rw [upd_same] at e ⊢
      exact e
    · rw [upd_ne hx] at e ⊢
      exact h.same x u e
  · rw [upd_ne (h.ne q).symm]
    exact h.fr
theorem Dr.mut (h : Dr M b n H) (q : M p = none) (ne : p ≠ b) : Dr M b n (upd H p o) := by
  refine ⟨fun x u e => ?_, h.fr, h.bag.to (upd_ne ne.symm)⟩
  rw [upd_ne (ne_of_none e q)]
  exact h.same x u e
theorem Dr.up (h : Dr M b n H) (le : n ≤ m) : Dr M b m H := ⟨h.same, h.fr, h.bag.up le⟩
theorem Dr.less {M' : Hp} (h : Dr M b n H) (s : Same M' M) : Dr M' b n H := ⟨s.trans h.same, s.free h.fr, h.bag⟩
theorem Dr.free (h : Dr M b n H) (q : H p = none) : M p = none := h.same.free q
/-- all but the bag stays -/
theorem Dr.kb (h : Dr M b n H) (hb : BagAt H' b m) (ht : ∀ x u, x ≠ b → H x = some u → H' x = some u) : Dr M b m H' :=
  ⟨fun x u e => ht x u (h.neM e) (h.same x u e), h.fr, hb⟩
end

/-! ### how often the laws turn -/
def turnsN (n : Int) : Int := if (if n < 6 then n else 6) > 2 then (if n < 6 then n else 6) else 2
theorem turns_le (n : Int) : 0 ≤ turnsN n ∧ turnsN n ≤ 6 := by
  unfold turnsN
  split <;> split <;> omega
section
open Evl
variable {σ : L2.St} {H : Hp} {ta tb : TE}
theorem ev_min2 {i j : Int} (ha : Ev ta σ H (.int i)) (hb : Ev tb σ H (.int j)) : Ev (tCB (fun xs H Q => ∃ i j, xs = [.int i, .int j] ∧ Q (.int (if j < i then j else i)) H) (tCons ta (tCons tb tNil))) σ H (.int (if j < i then j else i)) := fun H1 e Q q =>
  ha H1 e _ fun H2 e2 => hb H2 (e.trans e2) _ fun H3 e3 => ⟨i, j, rfl, q H3 (e2.trans e3)⟩
theorem ev_lenL {K : Fg} {a : Addr} {xs : List V} (ha : Ev ta σ H (.ref a)) (hs : SqL K H a xs) :
    Ev (tCB (fun ys H Q => ∃ p zs, ys = [.ref p] ∧ (SqL K H p zs ∨ SqT K H p zs) ∧ Q (.int zs.length) H) (tCons ta tNil)) σ H (.int (xs.length : Int)) := fun H1 e Q q =>
  ha H1 e _ fun H2 e2 => ⟨a, xs, rfl, .inl (ex_l (e.trans e2) hs), q H2 e2⟩
end
theorem atI_some {α : Type} {xs : List α} {r : Int} (h0 : 0 ≤ r) (h1 : r < xs.length) : ∃ v, atI xs r = some v ∧ v ∈ xs := by
  obtain ⟨j, rfl⟩ : ∃ j : Nat, r = (j : Int) := ⟨r.toNat, by omega⟩
  have hj : j < xs.length := by omega
  exact ⟨xs[j], atI_nat (List.getElem?_eq_getElem hj), List.getElem_mem hj⟩

theorem Cal.up {P : Program} {w : World} {K : Fg} {mg : Str → Option Value} {base : Heap} {CX : CXT} {j k : Nat} {x : Str} {ps : List Str} {sp : Sp} {f : Addr} {fd : FuncData} (C : Cal P w K mg base CX j x ps sp f fd) (h : j ≤ k) :
    Cal P w K mg base CX k x ps sp f fd := ⟨C.ok.mono h, C.mg, C.kp, C.b⟩
theorem CalG.up {P : Program} {w : World} {K : Fg} {mg : Str → Option Value} {base : Heap} {CX : CXT} {j k : Nat} {x : Str} {ps : List Str} {sp : Sp} {f : Addr} {fd : FuncData} (C : CalG P w K mg base CX j x ps sp f fd) (h : j ≤ k) :
    CalG P w K mg base CX k x ps sp f fd := ⟨C.ok.up h, C.mg, C.kp, C.b⟩
end Nm

set_option Elab.async false
set_option linter.all false
/-! The mathematics of keys, on lists of codes. -/
namespace Nm
/-! ### folds and marks -/
abbrev Fds := List (Nat × List Nat)
abbrev Mks := List (Nat × Int)
def lk {α : Type} (l : List (Nat × α)) (c : Nat) : Option α := (l.find? fun p => decide (p.1 = c)).map (·.2)
theorem lk_mem {α : Type} {l : List (Nat × α)} {c : Nat} {x : α} (h : lk l c = some x) : (c, x) ∈ l := by
  unfold lk at h
  obtain ⟨p, hp, e⟩ := Option.map_eq_some_iff.mp h
  have h1 := List.find?_some hp
  have h2 := List.mem_of_find?_eq_some hp
  have h3 : p.1 = c := of_decide_eq_true h1
  rw [← h3, ← e]
  exact h2
theorem lk_none {α : Type} {l : List (Nat × α)} {c : Nat} : lk l c = none ↔ ∀ p ∈ l, p.1 ≠ c := by
  unfold lk
  rw [Option.map_eq_none_iff, List.find?_eq_none]
  constructor
  · intro h p hp e
    exact h p hp (decide_eq_true e)
  · intro h p hp e
    exact h p hp (of_decide_eq_true e)
theorem lk_isSome {α : Type} {l : List (Nat × α)} {c : Nat} : (lk l c).isSome = decide (c ∈ l.map (·.1)) := by
  cases h : lk l c with
  | none =>
    have := lk_none.mp h
    symm
    simp only [Option.isSome_none, decide_eq_false_iff_not]
    intro m
    obtain ⟨p, hp, e⟩ := List.mem_map.mp m
    exact this p hp e
  | some x =>
    symm
    simp only [Option.isSome_some, decide_eq_true_eq]
    exact List.mem_map.mpr ⟨_, lk_mem h, rfl⟩
theorem lk_of_mem {α : Type} : ∀ {l : List (Nat × α)} {c : Nat} {x : α}, (l.map (·.1)).Nodup → (c, x) ∈ l → lk l c = some x
  | p :: l, c, x, hn, hm => by
    rw [List.map_cons, List.nodup_cons] at hn
    rcases List.mem_cons.mp hm with e | m
    · subst e
      simp [lk]
    · have ne : ¬ p.1 = c := fun e => hn.1 (by rw [e]; exact List.mem_map.mpr ⟨_, m, rfl⟩)
      have ih := lk_of_mem hn.2 m
      unfold lk at ih ⊢
      rw [List.find?_cons, decide_eq_false ne]
      exact ih
/-! ### the folding -/
def foldC (fs : Fds) (c : Nat) : List Nat := (lk fs c).getD [c]
def foldL (fs : Fds) (l : List Nat) : List Nat := (l.map (foldC fs)).flatten
theorem foldL_nil {fs : Fds} : foldL fs [] = [] := rfl
theorem foldL_cons {fs : Fds} {c : Nat} {l : List Nat} : foldL fs (c :: l) = foldC fs c ++ foldL fs l := rfl
theorem foldL_app {fs : Fds} {a b : List Nat} : foldL fs (a ++ b) = foldL fs a ++ foldL fs b := by simp [foldL]
theorem foldL_id {fs : Fds} : ∀ {l : List Nat}, (∀ c ∈ l, lk fs c = none) → foldL fs l = l
  | [], _ => rfl
  | c :: l, h => by
    rw [foldL_cons, foldL_id fun d hd => h d (List.mem_cons_of_mem _ hd)]
    simp [foldC, h c (List.mem_cons_self ..)]
/-! ### the ordering of marks -/
def runS (ms : Mks) (run : List Nat) : List Nat := run.filter (fun c => decide (lk ms c = some 1)) ++ (run.filter (fun c => decide (lk ms c = some 2)) ++ run.filter (fun c => decide (lk ms c = some 3)))
def isM (ms : Mks) (c : Nat) : Bool := (lk ms c).isSome
def ordL (ms : Mks) : List Nat → List Nat → List Nat
  | [], run => runS ms run
  | c :: r, run => if isM ms c then ordL ms r (run ++ [c]) else runS ms run ++ c :: ordL ms r []
def keyL (fs : Fds) (ms : Mks) (l : List Nat) : List Nat := ordL ms (foldL fs l) []
theorem ordL_mark {ms : Mks} {c : Nat} {r run : List Nat} (h : isM ms c = true) : ordL ms (c :: r) run = ordL ms r (run ++ [c]) := by simp [ordL, h]
theorem ordL_sign {ms : Mks} {c : Nat} {r run : List Nat} (h : isM ms c = false) : ordL ms (c :: r) run = runS ms run ++ c :: ordL ms r [] := by simp [ordL, h]
theorem runS_congr {ms : Mks} {a b : List Nat} (h : ∀ k : Int, a.filter (fun c => decide (lk ms c = some k)) = b.filter (fun c => decide (lk ms c = some k))) : runS ms a = runS ms b := by
  unfold runS
  rw [h 1, h 2, h 3]
theorem ordL_congr {ms : Mks} : ∀ {r a b : List Nat}, (∀ k : Int, a.filter (fun c => decide (lk ms c = some k)) = b.filter (fun c => decide (lk ms c = some k))) → ordL ms r a = ordL ms r b
  | [], a, b, h => runS_congr h
  | c :: r, a, b, h => by
    cases hm : isM ms c with
    | true =>
      rw [ordL_mark hm, ordL_mark hm]
      exact ordL_congr fun k => by rw [List.filter_append, List.filter_append, h k]
    | false => rw [ordL_sign hm, ordL_sign hm, runS_congr h]
/-- two neighbouring marks of unlike classes may change places -/
theorem ordL_swap {ms : Mks} {x y : Int} {a b : Nat} (ha : lk ms a = some x) (hb : lk ms b = some y) (ne : x ≠ y) : ∀ {l r run : List Nat}, ordL ms (l ++ a :: b :: r) run = ordL ms (l ++ b :: a :: r) run
  | [], r, run => by
    have m1 : isM ms a = true := by simp [isM, ha]
    have m2 : isM ms b = true := by simp [isM, hb]
    rw [List.nil_append, List.nil_append, ordL_mark m1, ordL_mark m2, ordL_mark m2, ordL_mark m1]
    refine ordL_congr fun k => ?_
    have e : ∀ u v : Nat, (run ++ [u] ++ [v]).filter (fun c => decide (lk ms c = some k)) = run.filter (fun c => decide (lk ms c = some k)) ++ [u, v].filter (fun c => decide (lk ms c = some k)) := fun u v => by
      rw [List.append_assoc, List.filter_append]
      rfl
    rw [e, e]
    congr 1
    by_cases h1 : x = k
    · have h2 : ¬ y = k := fun e => ne (h1.trans e.symm)
      simp [List.filter, ha, hb, h1, h2]
    · simp [List.filter, ha, hb, h1]
  | c :: l, r, run => by
    have ih := fun run => ordL_swap ha hb ne (l := l) (r := r) (run := run)
    rw [List.cons_append, List.cons_append]
    cases hm : isM ms c with
    | true => rw [ordL_mark hm, ordL_mark hm, ih]
    | false => rw [ordL_sign hm, ordL_sign hm, ih]
/-- neighbours that fall -/
def fall (ms : Mks) (a b : Nat) : Bool := match lk ms a, lk ms b with
  | some x, some y => decide (y < x)
  | _, _ => false
theorem fall_some {ms : Mks} {a b : Nat} (h : fall ms a b = true) : ∃ x y, lk ms a = some x ∧ lk ms b = some y ∧ y < x := by
  unfold fall at h
  split at h
  · rename_i x y h1 h2
    exact ⟨x, y, h1, h2, of_decide_eq_true h⟩
  · cases h
theorem not_fall {ms : Mks} {a b : Nat} {x y : Int} (h : fall ms a b = false) (ha : lk ms a = some x) (hb : lk ms b = some y) : x ≤ y := by
  unfold fall at h
  rw [ha, hb] at h
  have := of_decide_eq_false h
  omega
def okM (ms : Mks) : Prop := ∀ c x, lk ms c = some x → x = 1 ∨ x = 2 ∨ x = 3
/-- no neighbours fall -/
def still (ms : Mks) : List Nat → Prop
  | a :: b :: r => fall ms a b = false ∧ still ms (b :: r)
  | _ => True
theorem still_tail {ms : Mks} {a : Nat} {l : List Nat} (h : still ms (a :: l)) : still ms l := by
  cases l with
  | nil => trivial
  | cons b r => exact h.2
/-- a run of marks that climbs -/
theorem runS_up {ms : Mks} (ok : okM ms) : ∀ {l : List Nat}, (∀ c ∈ l, isM ms c = true) → l.Pairwise (fun a b => ∀ x y, lk ms a = some x → lk ms b = some y → x ≤ y) → runS ms l = l
  | [], _, _ => rfl
  | c :: l, hm, hp => by
    obtain ⟨h1, h2⟩ := List.pairwise_cons.mp hp
    have ih := runS_up ok (fun d hd => hm d (List.mem_cons_of_mem _ hd)) h2
    have hc := hm c (List.mem_cons_self ..)
    obtain ⟨x, hx⟩ := Option.isSome_iff_exists.mp hc
    have none_of : ∀ k : Int, k < x → l.filter (fun c => decide (lk ms c = some k)) = [] := by
      intro k hk
      rw [List.filter_eq_nil_iff]
      intro d hd e
      have := h1 d hd x k hx (of_decide_eq_true e)
      omega
    unfold runS at ih ⊢
    rcases ok c x hx with rfl | rfl | rfl
    · simp only [List.filter_cons, hx]
      simp
      exact ih
    · rw [none_of 1 (by omega)] at ih
      simp only [List.filter_cons, hx]
      simp [none_of 1 (by omega)]
      simpa using ih
    · rw [none_of 1 (by omega), none_of 2 (by omega)] at ih
      simp only [List.filter_cons, hx]
      simp [none_of 1 (by omega), none_of 2 (by omega)]
      simpa using ih
/-- what is still is its own key -/
theorem ordL_still {ms : Mks} (ok : okM ms) : ∀ {l run : List Nat}, (∀ c ∈ run, isM ms c = true) → run.Pairwise (fun a b => ∀ x y, lk ms a = some x → lk ms b = some y → x ≤ y) → still ms l →
    (∀ a ∈ run, ∀ b, l.head? = some b → ∀ x y, lk ms a = some x → lk ms b = some y → x ≤ y) → ordL ms l run = run ++ l
  | [], run, hr, hp, _, _ => by
    show runS ms run = _
    rw [runS_up ok hr hp, List.append_nil]
  | c :: l, run, hr, hp, hs, hb => by
    cases hm : isM ms c with
    | true =>
      rw [ordL_mark hm, ordL_still ok (run := run ++ [c]) ?_ ?_ (still_tail hs) ?_]
      · simp
      · intro d hd
        rcases List.mem_append.mp hd with h | h
        · exact hr d h
        · rw [List.mem_singleton.mp h]
          exact hm
      · rw [List.pairwise_append]
        refine ⟨hp, List.pairwise_singleton .., fun a ha b hb' => ?_⟩
        rw [List.mem_singleton.mp hb']
        exact hb a ha c rfl
      · obtain ⟨z, hz⟩ := Option.isSome_iff_exists.mp hm
        intro a ha b hb' x y hx hy
        cases l with
        | nil => cases hb'
        | cons d l =>
          have e : d = b := by simpa using hb'
          subst e
          have hzy : z ≤ y := not_fall hs.1 hz hy
          rcases List.mem_append.mp ha with h | h
          · have := hb a h c rfl x z hx hz
            omega
          · rw [List.mem_singleton.mp h, hz] at hx
            cases hx
            exact hzy
    | false =>
      rw [ordL_sign hm, runS_up ok hr hp, ordL_still ok (run := []) (fun _ h => nomatch h) List.Pairwise.nil (still_tail hs) (fun _ h => nomatch h)]
      rfl
theorem ordL_id {ms : Mks} (ok : okM ms) {l : List Nat} (h : still ms l) : ordL ms l [] = l :=
  ordL_still ok (fun _ h => nomatch h) List.Pairwise.nil h (fun _ h => nomatch h)
/-! ### how far it is from still: falls at any distance -/
def fallsC (ms : Mks) (a : Nat) (l : List Nat) : Nat := (l.filter (fun b => fall ms a b)).length
def falls (ms : Mks) : List Nat → Nat
  | [] => 0
  | a :: l => fallsC ms a l + falls ms l
theorem falls_swap {ms : Mks} {a b : Nat} (h : fall ms a b = true) : ∀ {l r : List Nat}, falls ms (l ++ b :: a :: r) + 1 = falls ms (l ++ a :: b :: r)
  | [], r => by
    obtain ⟨x, y, hx, hy, lt⟩ := fall_some h
    have h2 : fall ms b a = false := by
      unfold fall
      rw [hx, hy]
      exact decide_eq_false (by omega)
    simp only [List.nil_append, falls, fallsC, List.filter_cons, h, h2, if_true, if_false, List.length_cons, Bool.false_eq_true]
    omega
  | c :: l, r => by
    have ih := falls_swap h (l := l) (r := r)
    have e : fallsC ms c (l ++ b :: a :: r) = fallsC ms c (l ++ a :: b :: r) := by
      simp only [fallsC, List.filter_append, List.filter_cons, List.length_append]
      split <;> split <;> simp
    simp only [List.cons_append, falls, e]
    omega
/-- the places of neighbours that fall -/
theorem still_of {ms : Mks} : ∀ {l : List Nat}, (∀ i a b, l[i]? = some a → l[i + 1]? = some b → fall ms a b = false) → still ms l
  | [], _ => trivial
  | [_], _ => trivial
  | a :: b :: r, h => ⟨h 0 a b rfl rfl, still_of fun i x y hx hy => h (i + 1) x y (by simpa using hx) (by simpa using hy)⟩
theorem split_at {l : List Nat} {i : Nat} {a b : Nat} (h1 : l[i]? = some a) (h2 : l[i + 1]? = some b) : l = l.take i ++ a :: b :: l.drop (i + 2) := by
  obtain ⟨h3, e3⟩ := List.getElem?_eq_some_iff.mp h2
  obtain ⟨h4, e4⟩ := List.getElem?_eq_some_iff.mp h1
  conv => lhs; rw [← List.take_append_drop i l]
  rw [List.drop_eq_getElem_cons h4, List.drop_eq_getElem_cons h3, e3, e4]
theorem set_swap {l : List Nat} {i : Nat} {a b : Nat} (h1 : l[i]? = some a) (h2 : l[i + 1]? = some b) : (l.set i b).set (i + 1) a = l.take i ++ b :: a :: l.drop (i + 2) := by
  obtain ⟨h3, e3⟩ := List.getElem?_eq_some_iff.mp h2
  have hl : (l.take i).length = i := by rw [List.length_take]; omega
  conv => lhs; rw [split_at h1 h2]
  rw [List.set_append_right _ _ (by omega), hl, Nat.sub_self, List.set_cons_zero, List.set_append_right _ _ (by omega), hl]
  simp
/-! ### what the key is made of -/
theorem mem_runS {ms : Mks} {run : List Nat} {c : Nat} (h : c ∈ runS ms run) : c ∈ run := by
  unfold runS at h
  simp only [List.mem_append, List.mem_filter] at h
  rcases h with h | h | h <;> exact h.1
theorem mem_ordL {ms : Mks} : ∀ {l run : List Nat} {c : Nat}, c ∈ ordL ms l run → c ∈ run ∨ c ∈ l
  | [], run, c, h => .inl (mem_runS h)
  | d :: l, run, c, h => by
    cases hm : isM ms d with
    | true =>
      rw [ordL_mark hm] at h
      rcases mem_ordL h with q | q
      · rcases List.mem_append.mp q with q | q
        · exact .inl q
        · exact .inr (by rw [List.mem_singleton.mp q]; exact List.mem_cons_self ..)
      · exact .inr (List.mem_cons_of_mem _ q)
    | false =>
      rw [ordL_sign hm] at h
      rcases List.mem_append.mp h with q | q
      · exact .inl (mem_runS q)
      · rcases List.mem_cons.mp q with q | q
        · exact .inr (by rw [q]; exact List.mem_cons_self ..)
        · rcases mem_ordL q with q | q
          · cases q
          · exact .inr (List.mem_cons_of_mem _ q)
theorem len_runS {ms : Mks} (ok : okM ms) : ∀ {run : List Nat}, (∀ c ∈ run, isM ms c = true) → (runS ms run).length = run.length
  | [], _ => rfl
  | c :: l, h => by
    have ih := len_runS ok (run := l) fun d hd => h d (List.mem_cons_of_mem _ hd)
    obtain ⟨x, hx⟩ := Option.isSome_iff_exists.mp (h c (List.mem_cons_self ..))
    unfold runS at ih ⊢
    simp only [List.length_append] at ih
    rcases ok c x hx with rfl | rfl | rfl <;> simp [List.filter_cons, hx] <;> omega
theorem len_ordL {ms : Mks} (ok : okM ms) : ∀ {l run : List Nat}, (∀ c ∈ run, isM ms c = true) → (ordL ms l run).length = run.length + l.length
  | [], run, h => by
    show (runS ms run).length = _
    rw [len_runS ok h]
    rfl
  | d :: l, run, h => by
    cases hm : isM ms d with
    | true =>
      rw [ordL_mark hm, len_ordL ok (run := run ++ [d])]
      · simp; omega
      · intro c hc
        rcases List.mem_append.mp hc with q | q
        · exact h c q
        · rw [List.mem_singleton.mp q]; exact hm
    | false =>
      rw [ordL_sign hm, List.length_append, len_runS ok h, List.length_cons, len_ordL ok (run := []) (fun _ h => nomatch h)]
      simp
end Nm

set_option Elab.async false
set_option linter.all false
set_option maxRecDepth 100000
set_option maxHeartbeats 4000000
/-! Rules of our own for tables: texts taken apart, put together, sorted; instances called within a try; errors with a field; dicts, properties as evaluations. -/
namespace Nm
open PySem PySem.Spec PyProof.Rows L2
/-! ### texts and their signs -/
def sgS (c : Nat) : Str := ⟨#[c]⟩
def sgs (l : List Nat) : List V := l.map fun c => V.str (sgS c)
def stL (l : List Nat) : Str := ⟨l.toArray⟩
theorem stL_codes (l : List Nat) : (stL l).cps.toList = l := by simp [stL]
theorem stL_of (z : Str) : stL z.cps.toList = z := Str.ext' (by simp [stL])
theorem stL_len (l : List Nat) : (stL l).length = l.length := by simp [stL, Str.length]
theorem stL_inj {a b : List Nat} (h : stL a = stL b) : a = b := by
  have := congrArg (fun z : Str => z.cps.toList) h
  simpa [stL] using this
theorem stL_app (a b : List Nat) : stL a ++ stL b = stL (a ++ b) := by
  refine Str.ext' (Array.toList_inj.mp ?_)
  have h : (stL a ++ stL b).cps = (stL a).cps ++ (stL b).cps := rfl
  rw [h]
  simp [stL]
theorem sgS_stL (c : Nat) : sgS c = stL [c] := rfl
theorem sgs_len (l : List Nat) : (sgs l).length = l.length := by simp [sgs]
theorem sgs_strs (l : List Nat) : sgs l = (l.map sgS).map V.str := by rw [List.map_map]; rfl
theorem join_sgs (l : List Nat) : Txt.join ⟨#[]⟩ (l.map sgS) = stL l := by
  refine Str.ext' (Array.toList_inj.mp ?_)
  rw [join_codes, stL_codes, List.map_map]
  induction l with
  | nil => rfl
  | cons c r ih =>
    rw [List.map_cons, List.flatten_cons, ih]
    rfl
theorem sum_sgs (l : List Nat) : ((l.map sgS).map (·.length)).sum = l.length := by
  induction l with
  | nil => rfl
  | cons c r ih =>
    rw [List.map_cons, List.map_cons, List.sum_cons, ih, List.length_cons]
    show 1 + _ = _
    omega
section
variable {X : Cx}
theorem vals_signs {z : Str} {us : List Value} (hl : us.length = z.cps.toList.length) (h : ∀ (j : Nat) (v : Value), us[j]? = some v → SignAt z j v) : Vals (sgs z.cps.toList) us := by
  rw [sgs_strs]
  refine vals_of_strs (strs_at (by rw [hl, List.length_map]) fun j v e => ?_)
  obtain ⟨c, u, hc, rfl⟩ := h j v e
  exact ⟨sgS c, u, by rw [List.getElem?_map, Array.getElem?_toList, hc]; rfl, rfl⟩
/-- list of a text -/
def rListT : List V → Hp → VK → Prop := fun xs H Q => ∃ z : Str, xs = [.str z] ∧ z.length ≤ 100000 ∧ ∀ p, H p = none → p ≠ sysModules → Q (.ref p) (upd H p (.lst (sgs z.cps.toList)))
theorem call_listT (hc : X.calm = true) : CallR X (.type "list") rListT := by
  rintro pins s σ H xs us Q I r ⟨z, rfl, hz, q⟩
  obtain ⟨u, rfl, ⟨t, rfl⟩⟩ := vals1 r
  refine call_list_str (I.ok.hd hc) z t (hn := Evl.sz_of hz) fun h' tk acc c k hS ha => ?_
  have hl : acc.toList.length = z.cps.toList.length := by rw [Array.length_toList, ha.1, Array.length_toList]
  have rv : Vals (sgs z.cps.toList) acc.toList := vals_signs hl fun j v e => ha.2 j v (by rw [← Array.getElem?_toList]; exact e)
  have hz' : (sgs z.cps.toList).length ≤ sizeLine := by rw [sgs_len, Array.length_toList]; exact Evl.sz_of hz
  exact ⟨.ref s.heap.objs.size, _, I.laid (t' := tk) k (Nat.le_refl _) (show ObjOk X.prog X.w _ h' _ (.lst (sgs z.cps.toList)) from ⟨hz', acc.toList, c, rv, by rw [Array.toArray_toList]; exact hS⟩), rfl, q _ (I.hok.fresh (Nat.le_refl _)) (Nat.ne_of_gt I.big)⟩
/-- a text some times -/
def repS (z : Str) (n : Nat) : Str := stL (List.replicate n z.cps.toList).flatten
theorem fold_cat (a : Array Nat) : ∀ (n : Nat) (b : Array Nat), ((List.replicate n a).foldl (· ++ ·) b).toList = b.toList ++ (List.replicate n a.toList).flatten
  | 0, b => by simp
  | n + 1, b => by
    rw [List.replicate_succ, List.foldl_cons, fold_cat a n, List.replicate_succ, List.flatten_cons]
    simp
def rMulT : R2 := fun x y H Q => ∃ (z : Str) (k : Int), x = .str z ∧ y = .int k ∧ 0 ≤ k ∧ k ≤ 1000 ∧ z.length ≤ 1000 ∧ Q (.str (repS z k.toNat)) H
theorem op_mulT : OpR X (binaryOp .Mult) rMulT := by
  intro pins s σ H x y v u Q I rx ry h
  obtain ⟨z, k, rfl, rfl, h0, h1, hz, q⟩ := h
  obtain ⟨t, rfl⟩ := rx
  obtain ⟨t', rfl⟩ := ry
  have hlen : z.length * k.toNat ≤ 1000000 := Nat.le_trans (Nat.mul_le_mul hz (show k.toNat ≤ 1000 by omega)) (by decide)
  have fin : ∀ (y : Str) (t : Tok) (s' : Shared), y = repS z k.toNat → Inv X pins σ H s' → EP X pins σ Q (.str y t) s' := fun y t s' e J => ⟨.str (repS z k.toNat), H, J, ⟨t, by rw [e]⟩, q⟩
  refine PySem.P.mul_str (by rw [decide_eq_false (show ¬ k < -(2 ^ 63 : Int) by omega), decide_eq_false (show ¬ k ≥ 2 ^ 63 by omega)]; rfl) (fun a _ b => ?_) (fun a _ => ?_) ?_
  · have h2 : (2 ^ 63 - 1 : Int) / k ≥ 1000 := by
      have : (1000 : Int) * k ≤ 2 ^ 63 - 1 := by omega
      exact (Int.le_ediv_iff_mul_le (by omega)).mpr this
    omega
  · exact decide_eq_false (by rw [sizeLine_eq]; omega)
  · have hE : ∀ n : Nat, (List.replicate n z.cps.toList).flatten.length = n * z.length := fun n => by
      simp [Str.length]
    by_cases hk : k < 1
    · rw [if_pos hk]
      have e0 : k.toNat = 0 := by omega
      refine ⟨by decide, fin _ _ _ ?_ (I.tok _)⟩
      rw [e0]
      rfl
    · rw [if_neg hk]
      by_cases h2 : (k == 1 || z.length == 0) = true
      · rw [if_pos h2]
        refine fin _ _ _ ?_ I
        rcases Bool.or_eq_true_iff.mp h2 with h3 | h3
        · have e1 : k.toNat = 1 := by have := beq_iff_eq.mp h3; omega
          rw [e1]
          unfold repS
          rw [List.replicate_one, List.flatten_cons, List.flatten_nil, List.append_nil, stL_of]
        · have e1 : z.cps.toList = [] := List.eq_nil_of_length_eq_zero (by rw [Array.length_toList]; exact beq_iff_eq.mp h3)
          have e2 : repS z k.toNat = stL [] := by
            unfold repS
            rw [e1]
            congr 1
            exact List.eq_nil_of_length_eq_zero (by simp)
          rw [e2, ← e1, stL_of]
      · rw [if_neg h2]
        refine ⟨?_, fin _ _ _ ?_ (I.tok _)⟩
        · have e := congrArg List.length (fold_cat z.cps k.toNat #[])
          have e2 := hE k.toNat
          rw [show (#[] : Array Nat).toList ++ (List.replicate k.toNat z.cps.toList).flatten = (List.replicate k.toNat z.cps.toList).flatten from rfl, e2, Array.length_toList] at e
          show (List.foldl (· ++ ·) #[] (List.replicate k.toNat z.cps)).size ≤ sizeLine
          rw [e, Nat.mul_comm, sizeLine_eq]
          omega
        · refine Str.ext' (Array.toList_inj.mp ?_)
          rw [fold_cat]
          simp [repS, stL]
end
end Nm

set_option Elab.async false
set_option linter.all false
set_option maxRecDepth 100000
set_option maxHeartbeats 4000000
namespace Nm
open PySem PySem.Spec PyProof.Rows L2
section
variable {X : Cx}
/-- sorted of a text of fewer than 64 signs: some order of its signs -/
def rSortT : List V → Hp → VK → Prop := fun xs H Q => ∃ z : Str, xs = [.str z] ∧ z.length < 64 ∧ ∀ ys p, ys.Perm (z.cps.toList.map sgS) → sortedS ys = true → H p = none → Q (.ref p) (upd H p (.lst (ys.map V.str)))
theorem call_sortT (hc : X.calm = true) : CallR X (.builtin "sorted") rSortT := by
  rintro pins s σ H xs us Q I r ⟨z, rfl, h64, q⟩
  obtain ⟨u, rfl, ⟨t, rfl⟩⟩ := vals1 r
  have hz : z.cps.toList.length < 64 := by rw [Array.length_toList]; exact h64
  refine Calls.call_function_entry kind_sorted plain_sorted entry_sorted (args_sorted1 _) ?_
  unfold Builtin.«sorted»
  refine wpAny_bind (m := checkCount "sorted" 1 1 _) (wpAny_pure ?_)
  refine wpAny_bind (wpAny_collect_str (A := X.A.in1) (hn := Evl.sz_of (by show z.length ≤ 100000; omega)) (I.ok.hd hc) z t fun s' acc hk hg hd ho ha => ?_)
  obtain ⟨h', g', d', tk, os'⟩ := s'
  obtain rfl : g' = s.gens := hg
  obtain rfl : d' = s.drawn := hd
  obtain rfl : os' = s.os := ho
  have hal : acc.toList.length = (z.cps.toList.map sgS).length := by rw [Array.length_toList, ha.1, List.length_map, Array.length_toList]
  have hS : StrsAre acc.toList (z.cps.toList.map sgS) := strs_at hal fun j v e => by
    obtain ⟨c, u, hc, rfl⟩ := ha.2 j v (by rw [← Array.getElem?_toList]; exact e)
    exact ⟨sgS c, u, by rw [List.getElem?_map, Array.getElem?_toList, hc]; rfl, rfl⟩
  have h6 : acc.toList.length < 64 := by rw [hal, List.length_map]; exact hz
  have I1 : Inv X pins σ H { s with heap := h', toks := tk } := I.kept hk
  refine wpAny_bind (wpAny_newList ?_ (by rw [sizeLine_eq]; omega))
  have hoL : (h'.push (seqObj "list" acc.toList.toArray 0)).get? h'.objs.size = some (seqObj "list" acc.toList.toArray 0) := Heap.get?_push_size _ rfl
  show wpAny _ _ _ _ _ { s with heap := h'.push (seqObj "list" acc.toList.toArray 0), toks := tk }
  refine wpAny_bind (wpAny_holding (wpAny_call_entry slot_list_sort ⟨_, hoL, rfl⟩ entry_list_sort
    (list_sort_treeK (s := { s with heap := h'.push (seqObj "list" acc.toList.toArray 0), toks := tk }) strKind_oneLt hoL hS.keysOf (fun v₁ v₂ rest e => keyKind_strs (by rw [← e]; exact hS)) h6 fun st' hp hs => ⟨_, rfl, ?_⟩)
    (args_list_sort _)))
  obtain ⟨ys, g1, g2, g3⟩ := sorted_out_str hS hp hs
  obtain ⟨e', he'⟩ := sortedHeap_at (vs := acc.toList) (out := (arrOf st').map (·.2)) hoL
  have hlen : (ys.map V.str).length ≤ sizeLine := by
    rw [List.length_map, g2.length_eq, List.length_map, sizeLine_eq]
    omega
  refine wpAny_pure ⟨_, rfl, .ref h'.objs.size, upd H h'.objs.size (.lst (ys.map V.str)), I1.laid (t' := tk) (fun b u e => ?_) (Nat.le_refl _)
    (show ObjOk X.prog X.w _ _ _ (.lst (ys.map V.str)) from ⟨hlen, ((arrOf st').map (·.2)).toList, e', vals_of_strs g1, by rw [Array.toArray_toList]; exact he'⟩), rfl, q ys _ g2 g3 (I1.hok.fresh (Nat.le_refl _))⟩
  have lt : b < h'.objs.size := Heap.lt_size e
  rw [sortedHeap_old (Nat.ne_of_lt lt) (by rw [size_push']; exact Nat.lt_succ_of_lt lt)]
  exact Heap.get?_push_of_some _ e
end
end Nm

set_option Elab.async false
set_option linter.all false
set_option maxRecDepth 100000
set_option maxHeartbeats 4000000
namespace Nm
open PySem PySem.Spec PyProof.Rows L2
/-! ### an instance called, what it raises wished for at the caller's slots -/
def tCallOS (C : Addr) (sp : Sp) (E : L2.St → XK) (tf : TE) (t : TA) : TE := fun σ H Q => tf σ H fun y H1 => ∃ a, y = V.ref a ∧ t σ H1 fun vs H2 => (∃ dx fs, H2 a = some (.ins C dx fs)) ∧ sp (V.ref a :: vs) H2 Q (E σ)
section
variable {X : Cx} {CX : CXT} {k : Nat} {g C : Addr} {sp : Sp} {E : L2.St → XK} {e fe : Expr} {es : List Expr} {tf : TE} {t : TA} {pos : Pos}
theorem pe_callOS (hf : PE X fe tf) (c : StX.CallO X.K C g) (F : FnR X.prog X.w X.K X.mg X.base CX k g sp) (hr : Room k X.A) (hx : ∀ σ, PassesAt CX X σ (E σ)) (ha : PA X (e :: es) t)
    (ht : eval (.Call fe (e :: es) [] pos) X.env = (do callWith pos (← eval fe X.env) [] (backTo pos (starEach (e :: es) X.env)) (backToKw pos (keywordEach [] X.env))) := by rfl)
    (he : starEach (e :: es) X.env = (false, eval e X.env) :: starEach es X.env := by rfl) (hpl : (backTo pos (starEach es X.env)).any (·.1) = false := by rfl) : PE X (.Call fe (e :: es) [] pos) (tCallOS C sp E tf t) := by
  constructor
  intro pins s σ H Q I h
  refine Call_ (thn (hf.run pins s σ H _ I h) fun u s1 hh => ?_) ht
  obtain ⟨y, H1, I1, ry, a, rfl, q⟩ := hh
  cases ry
  refine StX.callO_with (thn (ha.run pos pins s1 σ H1 _ I1 q) fun us s2 hh => ?_) he hpl
  obtain ⟨vs, H2, I2, r, ⟨dx, fs, hi⟩, q2⟩ := hh
  obtain ⟨ox, od, J, hd⟩ := StX.insC_at I2 (.inr ⟨dx, fs, hi⟩)
  refine ⟨⟨C, ox, od, J, hd⟩, wpAny_call (PySem.W.kco_code I2.kIn J hd c.at_ c.fn c.fi ?_)⟩
  refine codeAny_mono (F X.A X.stack s2 H2 (.ref a :: us) (.ref a :: vs) Q (E σ) hr I2.env0 (.cons rfl r) q2) fun z s' hq => ?_
  rcases z with er | (_ | _ | _ | u)
  · exact hx σ pins H2 s2 er s' I2 hq
  all_goals first | exact I2.after hq | exact (show False from hq).elim
end
/-! ### isinstance of a caught error -/
structure ExK (K : Fg) (D : Addr) : Prop where
  cl : (PySem.W.clsIn K D).isSome = true
  ga : PySem.W.findIn K (.ref D) "__getattribute__" = some (some (.builtin "BaseException.__getattribute__"))
  gt : PySem.W.findIn K (.ref D) "__getattr__" = some none
  sb : PySem.W.subIn K (.ref D) (.type "BaseException") = some true
  ca : PySem.W.findIn K (.ref D) "__class__" = some (some (.builtin "object.__class__"))
  cg : PySem.W.specialIn K (.builtin "object.__class__") "__get__" = some (some (.builtin "getset_descriptor.__get__"))
  ct : PySem.W.takesIn K (.builtin "object.__class__") = some true
  mo : PySem.W.mroIn K D (.type "object") = some true
/-- isinstance(e, c), isinstance(e, (c, ..)): e stands at a, of the class at D -/
def rIsX (K : Fg) (D a : Addr) : List V → Hp → VK → Prop := fun xs H Q => ∃ (c : V) (b : Bool), xs = [.ref a, c] ∧
  ((∃ u, ClsV c u ∧ PySem.W.kitOne K (.ref D) u = some b) ∨ ∃ (tp : Addr) (cs : List V) (us : List Value), c = .ref tp ∧ H tp = some (.tup cs) ∧ Paired ClsV cs us ∧ PySem.W.kitAny K (.ref D) us = some b) ∧ Q (.bl b) H
theorem call_isX {X : Cx} {a D : Addr} {cls : Value} {d : Option Addr} {oe : Obj} {pn : List (Addr × Obj)} (T : ExK X.K D) (hz : Zc cls d oe) (hf : ∃ vs, oe.data = .fields vs) :
    CallR (X.suite a ((a, oe) :: pn)) (.builtin "isinstance") (fun xs H Q => cls = .ref D ∧ (∃ dd fs, d = some dd ∧ H dd = some (.xd fs)) ∧ rIsX X.K D a xs H Q) := by
  rintro pins s σ H xs us Q I r ⟨rfl, ⟨dd, fs, rfl, hd⟩, c, b, rfl, h, q⟩
  obtain ⟨u1, u2, rfl, r1, r2⟩ := vals2 r
  cases (show u1 = Value.ref a from r1)
  obtain ⟨hget, _⟩ := I.pin (a, oe) (List.mem_append.mpr (.inl List.mem_cons_self))
  obtain ⟨mA, hns, _⟩ := (show ObjOk X.prog X.w H s.heap dd (.xd fs) from I.hok dd _ hd)
  obtain ⟨od, ho, _⟩ := lookIn_ns hns
  obtain ⟨vs, hv⟩ := hf
  have J : PySem.W.InstAt s.heap a oe D (some od) := ⟨hget, hz.1, by unfold PySem.W.notCls; rw [hv] <;> rfl, by rw [hz.2]; exact ho⟩
  have Z := PySem.W.kitx_exc (x := a) (od := some od) (ox := oe) T.cl T.ga T.gt T.sb T.ca T.cg T.ct T.mo
  rcases h with ⟨u, k, e⟩ | ⟨tp, cs, ws, rfl, hT, k, e⟩
  · have e2 := k.eq r2
    subst e2
    exact PySem.W.kia_one Z I.kIn J e (fun z => nomatch z) fun tk => ⟨.bl b, H, I.tok tk, rfl, q⟩
  · cases (show u2 = Value.ref tp from r2)
    obtain ⟨_, its, rv, o, h1, h2, n, h3⟩ := (show ObjOk X.prog X.w H s.heap tp (.tup cs) from I.hok tp _ hT)
    have e3 := ClsV.all k rv
    subst e3
    obtain ⟨oc, od', dt, sl⟩ := o
    simp only at h2 h3
    subst h2 h3
    exact PySem.W.kia_tup Z I.kIn J h1 e (fun z => nomatch z) fun tk => ⟨.bl b, H, I.tok tk, rfl, q⟩
end Nm

set_option Elab.async false
set_option linter.all false
set_option maxRecDepth 100000
set_option maxHeartbeats 4000000
namespace Nm
open PySem PySem.Spec PyProof.Rows L2
/-! ### dicts, joins, comprehensions as evaluations -/
section
open Evl
variable {K : Fg} {σ : L2.St} {H H' : Hp} {ta tb tc td te ty tx : TE} {t u : TT} {x y z v : V} {a : Addr} {kvs : List (Key × V)} {k : Key}
/-- a new dict -/
def EvK (te : TE) (σ : L2.St) (H : Hp) (kvs : List (Key × V)) : Prop := ∀ H1, Ex H H1 → ∀ Q : VK, (∀ p H2, H1 p = none → Ex H1 H2 → H2 p = some (.dK kvs) → Q (.ref p) H2) → te σ H1 Q
theorem ev_dget (h1 : Ev td σ H (.ref a)) (h2 : Ev ty σ H (kV k)) (hd : H a = some (.dK kvs)) (hv : valV kvs k = some v) : Ev (tDGet td ty) σ H v := fun H1 e Q q =>
  h1 H1 e _ fun H2 e2 => h2 H2 (e.trans e2) _ fun H3 e3 => ⟨a, v, rfl, by rw [← hv]; exact DGet.k (((e.trans e2).trans e3) _ _ hd), q H3 (e2.trans e3)⟩
theorem ev_dget2 (h1 : Ev td σ H (.ref a)) (h2 : Ev ty σ H (kV k)) (h3 : Ev tx σ H z) (hd : H a = some (.dK kvs)) : Ev (tDGet2 td ty tx) σ H ((valV kvs k).getD z) := fun H1 e Q q =>
  h1 H1 e _ fun H2 e2 => ⟨a, rfl, .inl ⟨kvs, .inl ((e.trans e2) _ _ hd)⟩, h2 H2 (e.trans e2) _ fun H3 e3 => h3 H3 ((e.trans e2).trans e3) _ fun H4 e4 =>
    ⟨_, DGet.k ((((e.trans e2).trans e3).trans e4) _ _ hd), q H4 ((e2.trans e3).trans e4)⟩⟩
theorem ev_din (h1 : Ev td σ H (.ref a)) (h2 : Ev ty σ H (kV k)) (hd : H a = some (.dK kvs)) : Ev (tDIn ty td) σ H (.bl (valV kvs k).isSome) := fun H1 e Q q =>
  h2 H1 e _ fun H2 e2 => h1 H2 (e.trans e2) _ fun H3 e3 => ⟨a, _, rfl, DGet.k (((e.trans e2).trans e3) _ _ hd), q H3 (e2.trans e3)⟩
theorem ev_dnin (h1 : Ev td σ H (.ref a)) (h2 : Ev ty σ H (kV k)) (hd : H a = some (.dK kvs)) : Ev (tDNotIn ty td) σ H (.bl (!(valV kvs k).isSome)) := fun H1 e Q q =>
  h2 H1 e _ fun H2 e2 => h1 H2 (e.trans e2) _ fun H3 e3 => ⟨a, _, rfl, DGet.k (((e.trans e2).trans e3) _ _ hd), q H3 (e2.trans e3)⟩
/-- ''.join of a new list of texts -/
def rJoin (K : Fg) : V → List V → Hp → VK → Prop := fun x xs H Q => ∃ a p, ∃ ys : List Str, x = .str a ∧ xs = [.ref p] ∧ (SqL K H p (ys.map V.str) ∨ SqT K H p (ys.map V.str)) ∧
  (ys.map (·.length)).sum + ys.length * a.length ≤ 16777216 ∧ Q (.str (Txt.join a ys)) H
theorem ev_join0 {l : List Nat} (h1 : Ev ta σ H (.str ⟨#[]⟩)) (h2 : EvL tb σ H (sgs l)) (hl : l.length ≤ 1000000) : Ev (tM1 (rJoin K) ta tb) σ H (.str (stL l)) := fun H1 e Q q =>
  h1 H1 e _ fun H2 e2 => ⟨⟨_, rfl⟩, h2 H2 (e.trans e2) _ fun p H3 _ e3 hp => ⟨⟨#[]⟩, p, l.map sgS, rfl, rfl, .inl (SqL.of (by rw [hp, sgs_strs])), by
    rw [sum_sgs, show (⟨#[]⟩ : Str).length = 0 from rfl]
    omega, by rw [join_sgs]; exact q H3 (e2.trans e3)⟩⟩
theorem ev_joinP {l : List Nat} {p : Addr} (h1 : Ev ta σ H (.str ⟨#[]⟩)) (h2 : Ev tb σ H (.ref p)) (hp : H p = some (.lst (sgs l))) (hl : l.length ≤ 1000000) : Ev (tM1 (rJoin K) ta tb) σ H (.str (stL l)) := fun H1 e Q q =>
  h1 H1 e _ fun H2 e2 => ⟨⟨_, rfl⟩, h2 H2 (e.trans e2) _ fun H3 e3 => ⟨⟨#[]⟩, p, l.map sgS, rfl, rfl, .inl (SqL.of (by rw [((e.trans e2).trans e3) _ _ hp, sgs_strs])), by
    rw [sum_sgs, show (⟨#[]⟩ : Str).length = 0 from rfl]
    omega, by rw [join_sgs]; exact q H3 (e2.trans e3)⟩⟩
theorem emp_str : (Str.ofString "") = (⟨#[]⟩ : Str) := by decide +kernel
/-- ''.join of a new list of longer texts -/
theorem ev_joinS {ls : List (List Nat)} (h1 : Ev ta σ H (.str ⟨#[]⟩)) (h2 : EvL tb σ H (ls.map fun l => V.str (stL l))) (hl : ls.flatten.length ≤ 1000000) : Ev (tM1 (rJoin K) ta tb) σ H (.str (stL ls.flatten)) := fun H1 e Q q =>
  h1 H1 e _ fun H2 e2 => ⟨⟨_, rfl⟩, h2 H2 (e.trans e2) _ fun p H3 _ e3 hp => ⟨⟨#[]⟩, p, ls.map stL, rfl, rfl, .inl (SqL.of (by rw [hp, List.map_map]; rfl)), by
    have e : ((ls.map stL).map (·.length)).sum = ls.flatten.length := by
      rw [List.length_flatten, List.map_map]
      congr 1
    rw [e, show (⟨#[]⟩ : Str).length = 0 from rfl]
    omega, by
    have e : Txt.join ⟨#[]⟩ (ls.map stL) = stL ls.flatten := by
      refine Str.ext' (Array.toList_inj.mp ?_)
      rw [join_codes, stL_codes, List.map_map]
      congr 1
      exact (List.map_congr_left fun l _ => stL_codes l).trans (List.map_id _)
    rw [e]
    exact q H3 (e2.trans e3)⟩⟩
/-- two clauses: over a tuple, then over a text with a test; the element is the sign -/
theorem el_lc2 {xs : List V} {z : Str} {i j : Nat} {vs vs1 : List Nat} {tl : TE} (f : V → Nat → Bool) (h : Ev tl σ H (.ref a)) (hx : SqT K H a xs) (hz : z.length ≤ 40000) (hn : xs.length ≤ 100)
    (hw : ∀ x, wipe ((wipe σ vs).set i (some x)) vs = wipe σ vs) (hw1 : ∀ x y, wipe ((wipe ((wipe σ vs).set i (some x)) vs1).set j (some y)) vs1 = wipe ((wipe σ vs).set i (some x)) vs1)
    (h1 : ∀ x H1, Ex H H1 → x ∈ xs → Ev te ((wipe σ vs).set i (some x)) H1 (.str z))
    (ht : ∀ x (c : Nat) H1, Ex H H1 → x ∈ xs → c ∈ z.cps.toList → EvT t ((wipe ((wipe σ vs).set i (some x)) vs1).set j (some (.str (sgS c)))) H1 (f x c))
    (he : ∀ x (c : Nat) H1, Ex H H1 → x ∈ xs → c ∈ z.cps.toList → Ev ta ((wipe ((wipe σ vs).set i (some x)) vs1).set j (some (.str (sgS c)))) H1 (.str (sgS c))) :
    EvL (tLc2 (iTup K tl) (gName i) tYes (iStr te) (gName j) t ta vs vs1) σ H (sgs (xs.map fun x => z.cps.toList.filter (f x)).flatten) := fun H0 e Q q => h H0 e _ fun H1 e1 => ⟨a, rfl, ⟨xs, ex_t (e.trans e1) hx⟩, fun D hD => by
  have hzl : z.cps.toList.length = z.length := by simp [Str.length]
  let R : Nat → List Nat := fun n => ((xs.take n).map fun x => z.cps.toList.filter (f x)).flatten
  have hR : ∀ n, (R n).length ≤ n * z.length := fun n => by
    refine Nat.le_trans (flat_len (m := z.length) fun l hl => ?_) ?_
    · obtain ⟨x, _, rfl⟩ := List.mem_map.mp hl
      rw [← hzl]
      exact List.length_filter_le _ _
    · rw [List.length_map, List.length_take, Nat.mul_comm]
      exact Nat.mul_le_mul_right _ (by omega)
  have hbig : ∀ n m, n ≤ xs.length → m ≤ z.length → n * z.length + m < sizeLine := fun n m hn' hm => by
    have h3 : n * z.length ≤ 100 * 40000 := Nat.mul_le_mul (by omega) hz
    rw [sizeLine_eq]
    omega
  refine ⟨fun n m G => m = xs.length - n ∧ n ≤ xs.length ∧ Ex H1 G ∧ G D = some (.lst (sgs (R n))), ⟨_, rfl, Nat.zero_le _, Ex.new hD, upd_same⟩, ?_⟩
  rintro n m G ⟨rfl, hle, eG, hG⟩
  have xG := ex_t ((e.trans e1).trans eG) hx
  by_cases hlt : n < xs.length
  · refine .inr ⟨walk_tup.goes n G hlt xG, fun G' => Ex H1 G' ∧ G' D = some (.lst (sgs (R (n + 1)))), fun G' p => ⟨_, by omega, rfl, hlt, p.1, p.2⟩, ?_⟩
    rintro x G' yl
    obtain ⟨rfl, hxn⟩ := walk_tup.yields n G x G' hlt xG yl
    have hm : x ∈ xs := List.mem_of_getElem? hxn
    have hR1 : R (n + 1) = R n ++ z.cps.toList.filter (f x) := by
      show ((xs.take (n + 1)).map _).flatten = _
      rw [List.take_add_one, hxn, List.map_append, List.flatten_append]
      simp [R]
    refine ⟨hw x, ?_⟩
    unfold tYes
    dsimp only
    rw [if_pos rfl]
    refine h1 x _ (e.trans e1) hm G' eG _ fun G2 e2 => ⟨z, rfl, ?_⟩
    refine ⟨fun p m G => m = z.cps.size - p ∧ p ≤ z.cps.size ∧ Ex H1 G ∧ G D = some (.lst (sgs (R n ++ (z.cps.toList.take p).filter (f x)))), ⟨_, rfl, Nat.zero_le _, eG.trans e2, by rw [e2 D _ hG]; simp⟩, ?_⟩
    rintro p m G3 ⟨rfl, hle3, e3, hG3⟩
    by_cases hp : p < z.cps.size
    · refine .inr ⟨walk_str.goes p G3 hp trivial, fun G4 => Ex H1 G4 ∧ G4 D = some (.lst (sgs (R n ++ (z.cps.toList.take (p + 1)).filter (f x)))), fun G4 q4 => ⟨_, by omega, rfl, hp, q4.1, q4.2⟩, ?_⟩
      rintro y G4 yl4
      obtain ⟨rfl, c, hc, rfl⟩ := walk_str.yields p G3 y G4 hp trivial yl4
      have hc' : z.cps.toList[p]? = some c := by rw [Array.getElem?_toList]; exact hc
      have hcm : c ∈ z.cps.toList := List.mem_of_getElem? hc'
      have hT : (z.cps.toList.take (p + 1)).filter (f x) = (z.cps.toList.take p).filter (f x) ++ (if f x c = true then [c] else []) := by
        rw [List.take_add_one, hc', List.filter_append]
        congr 1
        by_cases hf : f x c = true <;> simp [hf]
      refine ⟨hw1 x _, ht x c _ (e.trans e1) hm hcm G4 e3 _ fun G5 e5 => ?_⟩
      cases hf : f x c with
      | true =>
        refine iteT (he x c _ (e.trans e1) hm hcm G5 (e3.trans e5) _ fun G6 e6 => ⟨_, e6 D _ (e5 D _ hG3), ?_, Ex.mut ((e3.trans e5).trans e6) hD, ?_⟩)
        · rw [sgs_len, List.length_append]
          have h5 := hR n
          have h6 := List.length_filter_le (f x) (z.cps.toList.take p)
          rw [List.length_take, hzl] at h6
          have h7 := hbig n z.length (by omega) (Nat.le_refl _)
          omega
        · rw [upd_same, hT, if_pos hf]
          simp [sgs]
      | false =>
        refine iteF ⟨e3.trans e5, ?_⟩
        rw [e5 D _ hG3, hT, if_neg (by rw [hf]; exact Bool.false_ne_true), List.append_nil]
    · have hpe : p = z.cps.size := by omega
      subst hpe
      refine .inl ⟨walk_str.stops G3 trivial, e3, ?_⟩
      have e9 : z.cps.toList.take z.cps.size = z.cps.toList := List.take_of_length_le (by simp)
      rw [e9] at hG3
      rw [hG3, hR1]
  · have hne : n = xs.length := by omega
    subst hne
    refine .inl ⟨walk_tup.stops G xG, q D G (fresh_back e1 hD) (e1.trans eG) ?_⟩
    have e9 : R xs.length = (xs.map fun x => z.cps.toList.filter (f x)).flatten := by
      show ((xs.take xs.length).map _).flatten = _
      rw [List.take_length]
    rw [← e9]
    exact hG⟩
end
end Nm

set_option Elab.async false
set_option linter.all false
set_option maxRecDepth 100000
set_option maxHeartbeats 4000000
namespace Nm
open PySem PySem.Spec PyProof.Rows L2
/-! ### signs, words -/
abbrev SIGNS : Str := "abcdefghijklmnopqrstuvwxyzABCDEFGHIJKLMNOPQRSTUVWXYZ0123456789'-.:^_~"
def sgn (c : Nat) : Bool := decide (c ∈ SIGNS.cps.toList)
def upTo (z : Str) (m : Int) : Bool := decide ((1 : Int) ≤ (z.length : Int)) && (decide ((z.length : Int) ≤ m) && z.cps.toList.all sgn)
def isSg (z : Str) : Bool := decide ((z.length : Int) = 1) && z.cps.toList.all sgn
def spSg : Sp := fun vs H Q _ => ∃ x, vs = [x] ∧ ((∃ z : Str, x = .str z ∧ z.length ≤ 100000 ∧ Q (.bl (isSg z)) H) ∨ (Oth H x ∧ Q (.bl false) H))
def spUp : Sp := fun vs H Q _ => ∃ x m, vs = [x, .int m] ∧ ((∃ z : Str, x = .str z ∧ z.length ≤ 100000 ∧ ∀ H', Same H H' → Q (.bl (upTo z m)) H') ∨ (Oth H x ∧ Q (.bl false) H))
def spUpTo (m : Int) : Sp := fun vs H Q _ => ∃ x, vs = [x] ∧ ((∃ z : Str, x = .str z ∧ z.length ≤ 100000 ∧ ∀ H', Same H H' → Q (.bl (upTo z m)) H') ∨ (Oth H x ∧ Q (.bl false) H))
theorem len_str (z : Str) : z.length = z.cps.toList.length := by simp [Str.length]
theorem one_sign {z : Str} (h : z.length = 1) : ∃ c, z = ⟨#[c]⟩ := by
  have h2 : z.cps.toList.length = 1 := by rw [← len_str]; exact h
  obtain ⟨c, e⟩ := List.length_eq_one_iff.mp h2
  exact ⟨c, Str.ext' (Array.toList_inj.mp (by simpa using e))⟩
theorem map_bl {l : List Nat} {f : Nat → Bool} : (l.map fun c => V.bl (f c)) = (l.map f).map V.bl := by rw [List.map_map]; rfl
theorem all_id {l : List Nat} {f : Nat → Bool} : (l.map f).all id = l.all f := by rw [List.all_map]; rfl
/-- the codes of a word of at most n signs -/
structure Wd (l : List Nat) (n : Nat) : Prop where
  ge : 1 ≤ l.length
  le : l.length ≤ n
  sg : ∀ c ∈ l, sgn c = true
theorem Wd.up {l : List Nat} {n m : Nat} (h : Wd l n) (le : n ≤ m) : Wd l m := ⟨h.ge, Nat.le_trans h.le le, h.sg⟩
theorem upTo_iff {l : List Nat} {n : Nat} : upTo (stL l) (n : Int) = true ↔ Wd l n := by
  unfold upTo
  rw [stL_len, stL_codes]
  simp only [Bool.and_eq_true, decide_eq_true_eq, List.all_eq_true]
  constructor
  · rintro ⟨h1, h2, h3⟩
    exact ⟨by omega, by omega, h3⟩
  · rintro ⟨h1, h2, h3⟩
    exact ⟨by omega, by omega, h3⟩
theorem isSg_sg {c : Nat} : isSg (sgS c) = sgn c := by
  unfold isSg
  rw [show (sgS c).length = 1 from rfl, show (sgS c).cps.toList = [c] from rfl]
  simp
/-! ### integers -/
def numB : V → Bool
  | .int _ => true
  | _ => false
/-- any data -/
inductive AnyD (H : Hp) : V → Prop where
  | o {x : V} (h : Oth H x) : AnyD H x
  | s (z : Str) : AnyD H (.str z)
theorem AnyD.same {H H' : Hp} {x : V} (h : AnyD H x) (s : Same H H') : AnyD H' x := by
  cases h with
  | o h => exact .o (h.same s)
  | s z => exact .s z
theorem AnyD.ty {K : Fg} {H : Hp} {x : V} (h : AnyD H x) : ∃ t b1 b2, TyX K H x t ∧ PySem.W.kitOne K t (.type "int") = some b1 ∧ PySem.W.kitOne K t (.type "bool") = some b2 ∧ numB x = (b1 && !b2) := by
  cases h with
  | s z => exact ⟨_, false, false, .base (.str z), kit_ty (by decide +kernel), kit_ty (by decide +kernel), rfl⟩
  | o h =>
    cases h with
    | non => exact ⟨_, false, false, .base .non, kit_ty (by decide +kernel), kit_ty (by decide +kernel), rfl⟩
    | bl b => exact ⟨_, true, true, .base (.bl b), kit_ty (by decide +kernel), kit_ty (by decide +kernel), rfl⟩
    | int i => exact ⟨_, true, false, .base (.int i), kit_ty (by decide +kernel), kit_ty (by decide +kernel), rfl⟩
    | lst e => exact ⟨_, false, false, .base (.lst e), kit_ty (by decide +kernel), kit_ty (by decide +kernel), rfl⟩
    | tup e => exact ⟨_, false, false, .base (.tup e), kit_ty (by decide +kernel), kit_ty (by decide +kernel), rfl⟩
    | dic e => exact ⟨_, false, false, .base (.dK e), kit_ty (by decide +kernel), kit_ty (by decide +kernel), rfl⟩
def spNum : Sp := fun vs H Q _ => ∃ x, vs = [x] ∧ AnyD H x ∧ Q (.bl (numB x)) H
def CLS : List V := [.int 1, .int 2, .int 3]
/-- of an integer: is it a class -/
def clB (i : Int) : Bool := inV (.int i) CLS
theorem clB_ok {i : Int} (h : i = 1 ∨ i = 2 ∨ i = 3) : clB i = true := by
  rcases h with rfl | rfl | rfl <;> decide
def spCls : Sp := fun vs H Q _ => ∃ i, vs = [.int i] ∧ Q (.bl (clB i)) H
/-! ### folds and marks as dicts -/
def kF (fs : Fds) : List (Key × V) := fs.map fun p => (Sum.inr (sgS p.1), V.str (stL p.2))
def kM (ms : Mks) : List (Key × V) := ms.map fun p => (Sum.inr (sgS p.1), V.int p.2)
theorem sgS_inj {a b : Nat} (h : sgS a = sgS b) : a = b := by
  have := stL_inj (a := [a]) (b := [b]) h
  simpa using this
theorem valV_lk {α : Type} (g : α → V) : ∀ (l : List (Nat × α)) (c : Nat), valV (l.map fun p => ((Sum.inr (sgS p.1) : Key), g p.2)) (Sum.inr (sgS c)) = (lk l c).map g
  | [], c => rfl
  | p :: r, c => by
    have ih := valV_lk g r c
    by_cases h : p.1 = c
    · subst h
      simp [valV, lk]
    · have h2 : ¬ ((Sum.inr (sgS p.1) : Key) = Sum.inr (sgS c)) := fun e => h (sgS_inj (Sum.inr.inj e))
      unfold valV lk at ih ⊢
      rw [List.map_cons, List.find?_cons, List.find?_cons, decide_eq_false h, decide_eq_false h2]
      exact ih
theorem valV_kF (fs : Fds) (c : Nat) : valV (kF fs) (Sum.inr (sgS c)) = (lk fs c).map fun w => V.str (stL w) := valV_lk (fun w => V.str (stL w)) fs c
theorem valV_kM (ms : Mks) (c : Nat) : valV (kM ms) (Sum.inr (sgS c)) = (lk ms c).map V.int := valV_lk V.int ms c
theorem kF_len (fs : Fds) : (kF fs).length = fs.length := by simp [kF]
theorem kM_len (ms : Mks) : (kM ms).length = ms.length := by simp [kM]
theorem kF_keys (fs : Fds) : (kF fs).map (·.1) = ((fs.map (·.1)).map sgS).map Sum.inr := by simp [kF]
theorem kM_keys (ms : Mks) : (kM ms).map (·.1) = ((ms.map (·.1)).map sgS).map Sum.inr := by simp [kM]
/-- folds and marks that a table may have -/
structure RuleOk (fs : Fds) (ms : Mks) : Prop where
  fn : (fs.map (·.1)).Nodup
  fk : ∀ p ∈ fs, sgn p.1 = true
  fw : ∀ p ∈ fs, Wd p.2 3 ∧ ∀ c ∈ p.2, lk fs c = none
  fl : fs.length ≤ 40
  mn : (ms.map (·.1)).Nodup
  mg : ∀ p ∈ ms, sgn p.1 = true ∧ lk fs p.1 = none
  mc : ∀ p ∈ ms, p.2 = 1 ∨ p.2 = 2 ∨ p.2 = 3
  ml : ms.length ≤ 8
theorem RuleOk.okM {fs : Fds} {ms : Mks} (h : RuleOk fs ms) : okM ms := fun c x e => h.mc _ (lk_mem e)
theorem foldC_ok {fs : Fds} {ms : Mks} (h : RuleOk fs ms) {c : Nat} (hc : sgn c = true) : Wd (foldC fs c) 3 ∧ ∀ d ∈ foldC fs c, lk fs d = none := by
  unfold foldC
  cases e : lk fs c with
  | some w => exact h.fw _ (lk_mem e)
  | none =>
    refine ⟨⟨Nat.le_refl 1, (by show 1 ≤ 3; decide), fun d hd => ?_⟩, fun d hd => ?_⟩ <;> rw [List.mem_singleton.mp hd]
    · exact hc
    · exact e
theorem foldL_len {fs : Fds} {n : Nat} : ∀ {l : List Nat}, (∀ c ∈ l, (foldC fs c).length ≤ n) → (foldL fs l).length ≤ n * l.length
  | [], _ => Nat.zero_le _
  | c :: l, h => by
    have h1 := h c (List.mem_cons_self ..)
    have h2 := foldL_len fun d hd => h d (List.mem_cons_of_mem _ hd)
    rw [foldL_cons, List.length_append, List.length_cons, Nat.mul_succ]
    omega
theorem foldL_ge {fs : Fds} {ms : Mks} (h : RuleOk fs ms) : ∀ {l : List Nat}, (∀ c ∈ l, sgn c = true) → l.length ≤ (foldL fs l).length
  | [], _ => Nat.zero_le _
  | c :: l, hl => by
    have h1 := (foldC_ok h (hl c (List.mem_cons_self ..))).1.ge
    have h2 := foldL_ge h fun d hd => hl d (List.mem_cons_of_mem _ hd)
    rw [foldL_cons, List.length_append, List.length_cons]
    omega
theorem foldL_ok {fs : Fds} {ms : Mks} (h : RuleOk fs ms) {l : List Nat} {n : Nat} (w : Wd l n) : Wd (foldL fs l) (3 * n) ∧ ∀ c ∈ foldL fs l, lk fs c = none := by
  have hm : ∀ c ∈ foldL fs l, sgn c = true ∧ lk fs c = none := fun c hc => by
    obtain ⟨q, hq, hcq⟩ := List.mem_flatten.mp hc
    obtain ⟨d, hd, rfl⟩ := List.mem_map.mp hq
    have := foldC_ok h (w.sg d hd)
    exact ⟨this.1.sg c hcq, this.2 c hcq⟩
  refine ⟨⟨Nat.le_trans w.ge (foldL_ge h w.sg), Nat.le_trans (foldL_len fun c hc => (foldC_ok h (w.sg c hc)).1.le) (Nat.mul_le_mul_left 3 w.le), fun c hc => (hm c hc).1⟩, fun c hc => (hm c hc).2⟩
theorem keyL_ok {fs : Fds} {ms : Mks} (h : RuleOk fs ms) {l : List Nat} {n : Nat} (w : Wd l n) : Wd (keyL fs ms l) (3 * n) ∧ ∀ c ∈ keyL fs ms l, lk fs c = none := by
  obtain ⟨w1, h1⟩ := foldL_ok h w
  have e : (keyL fs ms l).length = (foldL fs l).length := by
    unfold keyL
    rw [len_ordL h.okM (fun c h => absurd h List.not_mem_nil)]
    simp
  have hm : ∀ c ∈ keyL fs ms l, c ∈ foldL fs l := fun c hc => (mem_ordL hc).resolve_left List.not_mem_nil
  exact ⟨⟨by rw [e]; exact w1.ge, by rw [e]; exact w1.le, fun c hc => w1.sg c (hm c hc)⟩, fun c hc => h1 c (hm c hc)⟩
theorem still_of_pw {ms : Mks} : ∀ {l : List Nat}, l.Pairwise (fun a b => fall ms a b = false) → still ms l
  | [], _ => trivial
  | [_], _ => trivial
  | a :: b :: r, h => by
    obtain ⟨h1, h2⟩ := List.pairwise_cons.mp h
    exact ⟨h1 b (List.mem_cons_self ..), still_of_pw h2⟩
theorem fall_le {ms : Mks} {a b : Nat} {x y : Int} (ha : lk ms a = some x) (hb : lk ms b = some y) (h : x ≤ y) : fall ms a b = false := by
  unfold fall
  rw [ha, hb]
  exact decide_eq_false (by omega)
theorem still_runS {ms : Mks} {run : List Nat} : still ms (runS ms run) := by
  refine still_of_pw ?_
  have hk : ∀ (k : Int) c, c ∈ run.filter (fun c => decide (lk ms c = some k)) → lk ms c = some k := fun k c h => of_decide_eq_true (List.mem_filter.mp h).2
  have same : ∀ k : Int, (run.filter (fun c => decide (lk ms c = some k))).Pairwise (fun a b => fall ms a b = false) := fun k =>
    List.Pairwise.imp_of_mem (R := fun _ _ => True) (fun ha hb _ => fall_le (hk k _ ha) (hk k _ hb) (Int.le_refl k)) (List.pairwise_of_forall (fun _ _ => trivial))
  unfold runS
  refine List.pairwise_append.mpr ⟨same 1, List.pairwise_append.mpr ⟨same 2, same 3, fun a ha b hb => fall_le (hk 2 _ ha) (hk 3 _ hb) (by decide)⟩, fun a ha b hb => ?_⟩
  rcases List.mem_append.mp hb with h | h
  · exact fall_le (hk 1 _ ha) (hk 2 _ h) (by decide)
  · exact fall_le (hk 1 _ ha) (hk 3 _ h) (by decide)
theorem fall_sign {ms : Mks} {a c : Nat} (h : lk ms c = none) : fall ms a c = false ∧ fall ms c a = false := by
  unfold fall
  rw [h]
  cases lk ms a <;> exact ⟨rfl, rfl⟩
theorem still_app {ms : Mks} {c : Nat} {b : List Nat} (hc : lk ms c = none) (hb : still ms b) : ∀ {a : List Nat}, still ms a → still ms (a ++ c :: b)
  | [], _ => by
    cases b with
    | nil => trivial
    | cons d r => exact ⟨(fall_sign hc).2, hb⟩
  | [x], _ => ⟨(fall_sign hc).1, by
    cases b with
    | nil => trivial
    | cons d r => exact ⟨(fall_sign hc).2, hb⟩⟩
  | x :: y :: r, h => ⟨h.1, still_app hc hb (a := y :: r) h.2⟩
theorem still_ordL {ms : Mks} : ∀ {l run : List Nat}, still ms (ordL ms l run)
  | [], _ => still_runS
  | c :: l, run => by
    cases hm : isM ms c with
    | true =>
      rw [ordL_mark hm]
      exact still_ordL
    | false =>
      rw [ordL_sign hm]
      refine still_app ?_ still_ordL still_runS
      unfold isM at hm
      cases e : lk ms c with
      | none => rfl
      | some x => rw [e] at hm; cases hm
/-- the key of a key -/
theorem keyL_keyL {fs : Fds} {ms : Mks} (h : RuleOk fs ms) {l : List Nat} {n : Nat} (w : Wd l n) : keyL fs ms (keyL fs ms l) = keyL fs ms l := by
  obtain ⟨_, h1⟩ := keyL_ok h w
  show ordL ms (foldL fs (keyL fs ms l)) [] = _
  rw [foldL_id h1]
  exact ordL_id h.okM still_ordL
/-! ### a table in memory -/
def tabF (p q : Addr) : List (Str × V) := putF "_marks" (.ref q) (putF "_folds" (.ref p) [])
theorem fm_ : ¬ (("_folds" : Str) = "_marks") := by decide +kernel
theorem tabF_f (p q : Addr) : (tabF p q).lookup ("_folds" : Str) = some (.ref p) := by
  unfold tabF
  rw [lookup_putF, if_neg fm_, lookup_putF, if_pos rfl]
theorem tabF_m (p q : Addr) : (tabF p q).lookup ("_marks" : Str) = some (.ref q) := by
  unfold tabF
  rw [lookup_putF, if_pos rfl]
def TabAt (C : Addr) (H : Hp) (a : Addr) (fs : Fds) (ms : Mks) : Prop := ∃ dx p q, H a = some (.ins C dx (tabF p q)) ∧ H p = some (.dK (kF fs)) ∧ H q = some (.dK (kM ms))
theorem TabAt.same {C : Addr} {H H' : Hp} {a : Addr} {fs : Fds} {ms : Mks} (h : TabAt C H a fs ms) (s : Same H H') : TabAt C H' a fs ms := by
  obtain ⟨dx, p, q, h1, h2, h3⟩ := h
  exact ⟨dx, p, q, s _ _ h1, s _ _ h2, s _ _ h3⟩
/-! ### the promises of the program's defs -/
section
open Evl
def spFolded : Sp := fun vs H Q _ => ∃ d z fs, vs = [.ref d, .str z] ∧ H d = some (.dK (kF fs)) ∧ z.length ≤ 1000 ∧ (∀ p ∈ fs, p.2.length ≤ 3) ∧ RetV (.str (stL (foldL fs z.cps.toList))) H Q
def spRun : Sp := fun vs H Q _ => ∃ d z ms, vs = [.ref d, .str z] ∧ H d = some (.dK (kM ms)) ∧ z.length ≤ 5000 ∧ (∀ c ∈ z.cps.toList, isM ms c = true) ∧ RetV (.str (stL (runS ms z.cps.toList))) H Q
def spMarks : Sp := fun vs H Q _ => ∃ d z ms, vs = [.ref d, .str z] ∧ H d = some (.dK (kM ms)) ∧ z.length ≤ 5000 ∧ okM ms ∧ RetV (.str (stL (ordL ms z.cps.toList []))) H Q
def spKeyOf (C : Addr) : Sp := fun vs H Q _ => ∃ a z fs ms, vs = [.ref a, .str z] ∧ TabAt C H a fs ms ∧ RuleOk fs ms ∧ z.length ≤ 1000 ∧ RetV (.str (stL (keyL fs ms z.cps.toList))) H Q
/-- a property of a table: a copy of its dict -/
def spProp (C : Addr) (f : Str) : Sp := fun vs H Q _ => ∃ a dx fs p kvs, vs = [.ref a] ∧ H a = some (.ins C dx fs) ∧ fs.lookup f = some (.ref p) ∧ H p = some (.dK kvs) ∧ ∀ p' , H p' = none → Q (.ref p') (upd H p' (.dK kvs))
/-- NoWord(x), raised -/
def NoW (CW : Addr) (x : V) (H : Hp) (E : XK) : Prop := ∀ d H', H d = none → Same H H' → H' d = some (.xd [(("word" : Str), x)]) → E (.ref CW) (some d) H'
def spCallT (C CW : Addr) : Sp := fun vs H Q E => ∃ a x fs ms, vs = [.ref a, x] ∧ TabAt C H a fs ms ∧ RuleOk fs ms ∧
  ((∃ z : Str, x = .str z ∧ z.length ≤ 1000 ∧ (upTo z 40 = true → RetV (.str (stL (keyL fs ms z.cps.toList))) H Q) ∧ (upTo z 40 = false → NoW CW x H E)) ∨ (Oth H x ∧ NoW CW x H E))
def spChkF : Sp := fun vs H Q _ => ∃ d fs ms, vs = [.ref d] ∧ H d = some (.dK (kF fs)) ∧ RuleOk fs ms ∧ ∀ H', Same H H' → Q .non H'
def spChkM : Sp := fun vs H Q _ => ∃ dm df fs ms, vs = [.ref dm, .ref df] ∧ H df = some (.dK (kF fs)) ∧ H dm = some (.dK (kM ms)) ∧ RuleOk fs ms ∧ ∀ H', Same H H' → Q .non H'
def spChkS : Sp := fun vs H Q _ => ∃ dm df fs ms, vs = [.ref df, .ref dm] ∧ H df = some (.dK (kF fs)) ∧ H dm = some (.dK (kM ms)) ∧ RuleOk fs ms ∧ Q .non H
/-- __init__ of a table whose folds and marks are in order: copies of both -/
def spInitT (C : Addr) : Sp := fun vs H Q _ => ∃ x dx df dm fs ms, vs = [.ref x, .ref df, .ref dm] ∧ H x = some (.ins C dx []) ∧ H df = some (.dK (kF fs)) ∧ H dm = some (.dK (kM ms)) ∧ RuleOk fs ms ∧
  ∀ H' p q, H p = none → H q = none → p ≠ q → H' x = some (.ins C dx (tabF p q)) → H' p = some (.dK (kF fs)) → H' q = some (.dK (kM ms)) → (∀ b o, b ≠ x → H b = some o → H' b = some o) → Q .non H'
end
end Nm

set_option Elab.async false
set_option linter.all false
set_option maxRecDepth 100000
set_option maxHeartbeats 4000000
namespace Nm
open PySem PySem.Spec PyProof.Rows L2
/-! ### repr of data without dicts -/
/-! data below what is tracked -/
mutual
inductive Dz (H : Hp) : V → PyData → Prop
  | non : Dz H .non .none
  | bl (b : Bool) : Dz H (.bl b) (.bool b)
  | int (i : Int) : Dz H (.int i) (.int i)
  | str (x : Str) : Dz H (.str x) (.str x)
  | lst {a : Addr} {xs : List V} {ds : List PyData} : H a = some (.lst xs) → DzAll H xs ds → Dz H (.ref a) (.list ds)
  | tup {a : Addr} {xs : List V} {ds : List PyData} : H a = some (.tup xs) → DzAll H xs ds → Dz H (.ref a) (.tuple ds)
inductive DzAll (H : Hp) : List V → List PyData → Prop
  | nil : DzAll H [] []
  | cons {v : V} {vs : List V} {d : PyData} {ds : List PyData} : Dz H v d → DzAll H vs ds → DzAll H (v :: vs) (d :: ds)
end
section
variable {X : Cx} {pins : List (Addr × Obj)} {σ : L2.St} {H : Hp} {s : Shared}
theorem Dz.nd {H : Hp} {v : V} {d : PyData} (h : Dz H v d) : d.hasDict = false := by
  induction h using Dz.rec (motive_2 := fun vs ds _ => PyData.hasDictAll ds = false) with
  | non => rfl
  | bl b => rfl
  | int i => rfl
  | str x => rfl
  | lst e _ ih => simpa [PyData.hasDict] using ih
  | tup e _ ih => simpa [PyData.hasDict] using ih
  | nil => rfl
  | cons _ _ h1 h2 => simp [PyData.hasDictAll, h1, h2]
theorem Dz.same {H H' : Hp} (s : Same H H') {v : V} {d : PyData} (h : Dz H v d) : Dz H' v d := by
  induction h using Dz.rec (motive_2 := fun vs ds _ => DzAll H' vs ds) with
  | non => exact .non
  | bl b => exact .bl b
  | int i => exact .int i
  | str x => exact .str x
  | lst e _ ih => exact .lst (s _ _ e) ih
  | tup e _ ih => exact .tup (s _ _ e) ih
  | nil => exact .nil
  | cons _ _ h1 h2 => exact .cons h1 h2
theorem Dz.dp {K : Fg} {H : Hp} {v : V} {d : PyData} (h : Dz H v d) : Dp K H v d := by
  induction h using Dz.rec (motive_2 := fun vs ds _ => DpAll K H vs ds) with
  | non => exact .non
  | bl b => exact .bl b
  | int i => exact .int i
  | str x => exact .str x
  | lst e _ ih => exact .lst (Evl.sq_of e) ih
  | tup e _ ih => exact .tup (Evl.st_of e) ih
  | nil => exact .nil
  | cons _ _ h1 h2 => exact .cons h1 h2
def rReprZ : List V → Hp → VK → Prop := fun xs H Q => ∃ x d, xs = [x] ∧ Dz H x d ∧ Fit d ∧ Q (.str d.shown) H
theorem call_reprZ (hG : X.A.guards = some []) (hu : X.A.units + 64 < cLine) : CallR X (.builtin "repr") rReprZ := by
  rintro pins s σ H xs us Q I r ⟨x, d, rfl, hd, hf, q⟩
  obtain ⟨u, rfl, rx⟩ := vals1 r
  have sz := hf.len
  have dp := hf.dp
  have out : ∀ (h' : Heap) (u tk : Tok), (∀ b o, s.heap.get? b = some o → h'.get? b = some o) → EP X pins σ Q (.str d.shown u) { s with heap := h', toks := tk } :=
    fun h' u tk k => ⟨.str d.shown, H, I.kept (t' := tk) k, ⟨u, rfl⟩, q⟩
  by_cases hb : ∃ a, x = V.ref a
  · obtain ⟨a, rfl⟩ := hb
    obtain ⟨as, hr⟩ := Dp.reads I d _ _ (hd.dp (K := X.K)) rx
    cases rx
    exact repr_of_reads' hr hf.sh (fun z => by rw [hd.nd] at z; cases z) hG (by omega) (fun _ _ e => e) out sz
  · have hx : Dx X.K H x d := by
      cases hd with
      | non => exact .non
      | bl b => exact .bl b
      | int i => exact .int i
      | str z => exact .str z
      | lst e _ => exact absurd ⟨_, rfl⟩ hb
      | tup e _ => exact absurd ⟨_, rfl⟩ hb
    exact call_repr hG hu pins s σ H [x] [u] Q I (.cons rx .nil) ⟨x, d, rfl, hx, hf, q⟩
end
/-! ### ascending order -/
def srt (l : List Nat) : List Nat := l.mergeSort (fun a b => decide (a ≤ b))
theorem srt_perm (l : List Nat) : (srt l).Perm l := List.mergeSort_perm ..
theorem srt_up (l : List Nat) : (srt l).Pairwise (· ≤ ·) := by
  have h := List.pairwise_mergeSort (le := fun a b : Nat => decide (a ≤ b)) (fun a b c h1 h2 => by simp at *; omega) (fun a b => by simp; omega) l
  exact h.imp fun h => of_decide_eq_true h
theorem srt_mem {l : List Nat} {c : Nat} : c ∈ srt l ↔ c ∈ l := (srt_perm l).mem_iff
theorem ltCps_one {x p : Nat} : ltCps (sgS x).cps.toList (sgS p).cps.toList = decide (x < p) := by
  show ltCps [x] [p] = _
  simp [ltCps]
theorem rising_sgs : ∀ {l : List Nat} {p : Nat}, risingS (sgS p) (l.map sgS) = true → (p :: l).Pairwise (· ≤ ·)
  | [], _, _ => List.pairwise_singleton ..
  | x :: r, p, h => by
    have h : (!ltCps (sgS x).cps.toList (sgS p).cps.toList && risingS (sgS x) (r.map sgS)) = true := h
    rw [Bool.and_eq_true, ltCps_one] at h
    have h1 : p ≤ x := by have := h.1; simp at this; exact this
    have ih := rising_sgs h.2
    refine List.pairwise_cons.mpr ⟨fun y hy => ?_, ih⟩
    rcases List.mem_cons.mp hy with e | m
    · rw [e]; exact h1
    · exact Nat.le_trans h1 ((List.pairwise_cons.mp ih).1 y m)
theorem sorted_sgs {l : List Nat} (h : sortedS (l.map sgS) = true) : l.Pairwise (· ≤ ·) := by
  cases l with
  | nil => exact List.Pairwise.nil
  | cons x r => exact rising_sgs h
theorem same_sorted : ∀ {a b : List Nat}, a.Perm b → a.Pairwise (· ≤ ·) → b.Pairwise (· ≤ ·) → a = b
  | [], b, h, _, _ => (List.Perm.nil_eq h)
  | x :: r, [], h, _, _ => absurd h.length_eq (by simp)
  | x :: r, y :: t, h, h1, h2 => by
    obtain ⟨a1, a2⟩ := List.pairwise_cons.mp h1
    obtain ⟨b1, b2⟩ := List.pairwise_cons.mp h2
    have exy : x = y := by
      have hx : x ∈ y :: t := h.mem_iff.mp (List.mem_cons_self ..)
      have hy : y ∈ x :: r := h.mem_iff.mpr (List.mem_cons_self ..)
      have le1 : y ≤ x := by
        rcases List.mem_cons.mp hx with e | m
        · omega
        · exact b1 x m
      have le2 : x ≤ y := by
        rcases List.mem_cons.mp hy with e | m
        · omega
        · exact a1 y m
      omega
    subst exy
    rw [same_sorted (List.Perm.cons_inv h) a2 b2]
theorem perm_sgs {ys : List Str} {l : List Nat} (h : ys.Perm (l.map sgS)) : ∃ m : List Nat, ys = m.map sgS ∧ m.Perm l := by
  refine ⟨ys.map fun z => z.cps.toList.headD 0, ?_, ?_⟩
  · rw [List.map_map]
    symm
    refine (List.map_congr_left fun y hy => ?_).trans (List.map_id ys)
    obtain ⟨c, _, rfl⟩ := List.mem_map.mp (h.mem_iff.mp hy)
    rfl
  · have := h.map fun z => z.cps.toList.headD 0
    rw [List.map_map] at this
    refine this.trans (List.Perm.of_eq ?_)
    exact (List.map_congr_left fun c _ => rfl).trans (List.map_id l)
theorem sorted_srt {ys : List Str} {l : List Nat} (h1 : ys.Perm (l.map sgS)) (s1 : sortedS ys = true) : ys = (srt l).map sgS := by
  obtain ⟨a, rfl, pa⟩ := perm_sgs h1
  rw [same_sorted (pa.trans (srt_perm l).symm) (sorted_sgs s1) (srt_up l)]
section
open Evl
variable {K : Fg} {σ : L2.St} {H H' : Hp} {ta tb tc td te ty tx tl : TE} {t u : TT} {a : Addr} {kvs : List (Key × V)}
/-- sorted of a dict whose keys are signs -/
def rSortD : List V → Hp → VK → Prop := fun xs H Q => ∃ (a : Addr) (kvs : List (Key × V)) (ks : List Str), xs = [.ref a] ∧ Rd H a (.dK kvs) ∧ kvs.map (·.1) = ks.map Sum.inr ∧ ks.length < 64 ∧
    ∀ ys p, ys.Perm ks → sortedS ys = true → H p = none → Q (.ref p) (upd H p (.lst (ys.map V.str)))
theorem el_sortD {l : List Nat} (h : Ev td σ H (.ref a)) (hd : H a = some (.dK kvs)) (hk : kvs.map (·.1) = (l.map sgS).map Sum.inr) (hl : l.length < 64) : EvL (tCB rSortD (tCons td tNil)) σ H (sgs (srt l)) := fun H1 e Q q =>
  h H1 e _ fun H2 e2 => ⟨a, kvs, l.map sgS, rfl, .inl ((e.trans e2) _ _ hd), hk, by rw [List.length_map]; exact hl, fun ys p perm so np => by
    rw [sorted_srt perm so, ← sgs_strs]
    exact q p _ (fresh_back e2 np) (e2.trans (Ex.new np)) upd_same⟩
/-! ### lists of pairs of texts -/
abbrev Pr := List Nat × List Nat
abbrev prV (q : Pr) : List V := [.str (stL q.1), .str (stL q.2)]
abbrev PrsAt (H : Hp) (as : List Addr) (ps : List Pr) : Prop := Paired (fun a q => H a = some (.tup (prV q))) as ps
theorem PrsAt.same {as : List Addr} {ps : List Pr} (h : PrsAt H as ps) (s : Same H H') : PrsAt H' as ps := Paired.mapP h fun _ _ e => s _ _ e
theorem PrsAt.len {as : List Addr} {ps : List Pr} (h : PrsAt H as ps) : as.length = ps.length := Paired.length h
theorem prs_snoc : ∀ {as : List Addr} {ps : List Pr} {x : Addr} {q : Pr}, PrsAt H as ps → H x = some (.tup (prV q)) → PrsAt H (as ++ [x]) (ps ++ [q])
  | _, _, _, _, .nil, e => .cons e .nil
  | _, _, _, _, .cons e1 t, e => .cons e1 (prs_snoc t e)
def prD (q : Pr) : PyData := .tuple [.str (stL q.1), .str (stL q.2)]
theorem prs_dz : ∀ {as : List Addr} {ps : List Pr}, PrsAt H as ps → DzAll H (as.map V.ref) (ps.map prD)
  | _, _, .nil => .nil
  | _, _, .cons e t => .cons (.tup e (.cons (.str _) (.cons (.str _) .nil))) (prs_dz t)
/-- a new list of new pairs -/
def EvP (te : TE) (σ : L2.St) (H : Hp) (ps : List Pr) : Prop := ∀ H1, Ex H H1 → ∀ Q : VK, (∀ p as H2, H1 p = none → Ex H1 H2 → H2 p = some (.lst (as.map V.ref)) → PrsAt H2 as ps → Q (.ref p) H2) → te σ H1 Q
theorem ep_lc {l : List Nat} {j : Nat} {vs : List Nat} (f : Nat → Bool) (g : Nat → Pr) (h : EvL tl σ H (sgs l)) (hz : l.length ≤ 1000) (hw : ∀ x, wipe ((wipe σ vs).set j (some x)) vs = wipe σ vs)
    (ht : ∀ (c : Nat) H1, Ex H H1 → c ∈ l → EvT t ((wipe σ vs).set j (some (.str (sgS c)))) H1 (f c)) (he : ∀ (c : Nat) H1, Ex H H1 → c ∈ l → f c = true → EvU te ((wipe σ vs).set j (some (.str (sgS c)))) H1 (prV (g c))) :
    EvP (tLc (iList K tl) (gName j) t te vs) σ H ((l.filter f).map g) := fun H0 e Q q => h H0 e _ fun b H1 nb e1 hb => ⟨b, rfl, ⟨_, sq_of hb⟩, fun D hD =>
  lc_it (walk_list (xs := sgs l)) (fun i G => Ex H1 G ∧ ∃ as, G D = some (.lst (as.map V.ref)) ∧ PrsAt G as (((l.take i).filter f).map g)) ⟨Ex.new hD, [], upd_same, .nil⟩ (fun i G _ p => sq_of (p.1 _ _ hb)) (by
    rintro i x G1 G2 hi ⟨eG, as, hG, hP⟩ ⟨rfl, hx⟩
    obtain ⟨c, hc, rfl⟩ : ∃ c, l[i]? = some c ∧ x = .str (sgS c) := by
      unfold sgs at hx
      rw [List.getElem?_map] at hx
      obtain ⟨c, hc, e⟩ := Option.map_eq_some_iff.mp hx
      exact ⟨c, hc, e.symm⟩
    have hm : c ∈ l := List.mem_of_getElem? hc
    have hlen : as.length ≤ i := by
      rw [PrsAt.len hP, List.length_map]
      refine Nat.le_trans (List.length_filter_le _ _) ?_
      rw [List.length_take]
      omega
    have hi' : i < l.length := (List.getElem?_eq_some_iff.mp hc).1
    refine ⟨hw _, ht c _ (e.trans e1) hm G2 eG _ fun G3 e3 => ?_⟩
    cases hf : f c with
    | true =>
      refine iteT (he c _ (e.trans e1) hm hf G3 (eG.trans e3) _ fun r G4 nr e4 hr => ⟨_, e4 D _ (e3 D _ hG), by rw [List.length_map]; exact Evl.sz_lt (by omega), Ex.mut ((eG.trans e3).trans e4) hD, as ++ [r], ?_, ?_⟩)
      · rw [upd_same, List.map_append]
        rfl
      · have hD4 : G4 D = some (.lst (as.map V.ref)) := e4 D _ (e3 D _ hG)
        rw [List.take_add_one, hc, List.filter_append, List.map_append]
        have e5 : ((some c).toList.filter f).map g = [g c] := by simp [hf]
        rw [e5]
        have up : ∀ {p : Addr} {q : Pr}, G4 p = some (.tup (prV q)) → (upd G4 D (.lst (as.map V.ref ++ [V.ref r]))) p = some (.tup (prV q)) := fun h => (upd_ne (ne_of h hD4 (by intro z; cases z))).trans h
        exact prs_snoc (Paired.mapP (PrsAt.same hP (e3.trans e4)) fun _ _ h => up h) (up hr)
    | false =>
      refine iteF ⟨eG.trans e3, as, e3 D _ hG, ?_⟩
      rw [List.take_add_one, hc, List.filter_append]
      have e5 : (some c).toList.filter f = [] := by simp [hf]
      rw [e5, List.append_nil]
      exact PrsAt.same hP e3) (by
    rintro G ⟨eG, as, hG, hP⟩
    rw [sgs_len, List.take_length] at hP
    exact q D as G (fresh_back e1 hD) (e1.trans eG) hG hP)⟩
theorem prs_get {as : List Addr} {ps : List Pr} (h : PrsAt H as ps) : ∀ (i : Nat) (x : Addr), as[i]? = some x → ∃ q, ps[i]? = some q ∧ H x = some (.tup (prV q)) := by
  induction h with
  | nil =>
    intro i x h
    simp at h
  | cons e t ih =>
    intro i x h
    cases i with
    | zero =>
      rename_i a q _ _
      have h' : a = x := by simpa using h
      subst h'
      exact ⟨q, rfl, e⟩
    | succ i => exact ih i x (by simpa using h)
end
end Nm

set_option Elab.async false
set_option linter.all false
set_option maxRecDepth 100000
set_option maxHeartbeats 4000000
namespace Nm
open PySem PySem.Spec PyProof.Rows L2
/-! ### exchanges of a table as pairs, those that fail -/
def foldPrs (fs : Fds) : List Pr := (srt (fs.map (·.1))).map fun c => ([c], (lk fs c).getD [])
def mkCond (ms : Mks) (a b : Nat) : Bool := decide (a < b) && !decide (lk ms a = lk ms b)
def mkPr (a b : Nat) : Pr := ([a, b], [b, a])
def markPrs (ms : Mks) : List Pr := ((srt (ms.map (·.1))).map fun a => ((srt (ms.map (·.1))).filter (mkCond ms a)).map (mkPr a)).flatten
def unlike (fs : Fds) (ms : Mks) (q : Pr) : Bool := !decide (keyL fs ms q.1 = keyL fs ms q.2)
def failPrs (fs : Fds) (ms : Mks) (fs' : Fds) (ms' : Mks) : List Pr := (foldPrs fs ++ markPrs ms).filter (unlike fs' ms')
theorem prs_wd {fs : Fds} {ms : Mks} (ro : RuleOk fs ms) : ∀ q ∈ foldPrs fs ++ markPrs ms, Wd q.1 3 ∧ Wd q.2 3 := fun q hq => by
  rcases List.mem_append.mp hq with h | h
  · obtain ⟨c, hc, rfl⟩ := List.mem_map.mp h
    obtain ⟨p, hp, rfl⟩ := List.mem_map.mp (srt_mem.mp hc)
    have hl := lk_of_mem ro.fn hp
    refine ⟨⟨Nat.le_refl 1, (by decide : 1 ≤ 3), fun c hc => by rw [List.mem_singleton.mp hc]; exact ro.fk p hp⟩, ?_⟩
    rw [hl]
    exact (ro.fw p hp).1
  · obtain ⟨l, hl, hql⟩ := List.mem_flatten.mp h
    obtain ⟨a, ha, rfl⟩ := List.mem_map.mp hl
    obtain ⟨b, hb, rfl⟩ := List.mem_map.mp hql
    have sg : ∀ c, c ∈ srt (ms.map (·.1)) → sgn c = true := fun c hc => by
      obtain ⟨p, hp, rfl⟩ := List.mem_map.mp (srt_mem.mp hc)
      exact (ro.mg p hp).1
    have s1 := sg a ha
    have s2 := sg b (List.mem_filter.mp hb).1
    refine ⟨⟨(by decide : 1 ≤ 2), (by decide : 2 ≤ 3), fun c hc => ?_⟩, ⟨(by decide : 1 ≤ 2), (by decide : 2 ≤ 3), fun c hc => ?_⟩⟩
    · rcases List.mem_cons.mp hc with e | hc
      · rw [e]; exact s1
      · rw [List.mem_singleton.mp hc]; exact s2
    · rcases List.mem_cons.mp hc with e | hc
      · rw [e]; exact s2
      · rw [List.mem_singleton.mp hc]; exact s1
theorem srt_len (l : List Nat) : (srt l).length = l.length := (srt_perm l).length_eq
theorem foldPrs_len (fs : Fds) : (foldPrs fs).length = fs.length := by unfold foldPrs; rw [List.length_map, srt_len, List.length_map]
theorem flat_le {α β : Type} {l : List α} {f : α → List β} {n : Nat} (h : ∀ x ∈ l, (f x).length ≤ n) : (l.map f).flatten.length ≤ n * l.length := by
  induction l with
  | nil => simp
  | cons x r ih =>
    have h1 := h x (List.mem_cons_self ..)
    have h2 := ih fun y hy => h y (List.mem_cons_of_mem _ hy)
    rw [List.map_cons, List.flatten_cons, List.length_append, List.length_cons, Nat.mul_succ]
    omega
theorem markPrs_len (ms : Mks) : (markPrs ms).length ≤ ms.length * ms.length := by
  unfold markPrs
  have h := flat_le (l := srt (ms.map (·.1))) (f := fun a => ((srt (ms.map (·.1))).filter (mkCond ms a)).map (mkPr a)) (n := ms.length) fun a _ => by
    rw [List.length_map]
    refine Nat.le_trans (List.length_filter_le _ _) ?_
    rw [srt_len, List.length_map]
    exact Nat.le_refl _
  rw [srt_len, List.length_map] at h
  exact h
section
open Evl
variable {K : Fg} {σ : L2.St} {H H' : Hp} {ta tb tc td te ty tx tl tl2 : TE} {t u : TT} {a : Addr} {kvs : List (Key × V)}
def PRet (ps : List Pr) (H : Hp) (Q : VK) : Prop := ∀ p as H2, H p = none → Ex H H2 → H2 p = some (.lst (as.map V.ref)) → PrsAt H2 as ps → Q (.ref p) H2
theorem s_retP {ps : List Pr} {D : Ends} (h : EvP te σ H ps) (k : PRet ps H D.rt) : tRet te D σ H := h H (Ex.refl H) _ fun p as H2 np e hp hP => k p as H2 np e hp hP
/-- what a promise gives: pairs -/
def SpP (sp : Sp) (vs : List V) (H : Hp) (ps : List Pr) : Prop := ∀ H1, Ex H H1 → ∀ Q : VK, PRet ps H1 Q → ∀ E : XK, sp vs H1 Q E
theorem ep_call {sp : Sp} {dvs vs : List V} {E : XK} {ta : TA} {ps : List Pr} (h : EvA ta σ H vs) (hs : SpP sp (vs ++ dvs) H ps) : EvP (tCall sp dvs E ta) σ H ps := fun H1 e Q q =>
  h H1 e _ fun H2 e2 => hs H2 (e.trans e2) Q (fun p as H3 np e3 hp hP => q p as H3 (fresh_back e2 np) (e2.trans e3) hp hP) E
theorem lt_codes {a b : Nat} : decide ((sgS a).cps.toList < (sgS b).cps.toList) = decide (a < b) := by
  rw [decide_eq_decide]
  show [a] < [b] ↔ a < b
  constructor
  · intro h
    cases h with
    | rel h => exact h
    | cons h => cases h
  · intro h
    exact List.Lex.rel h
/-- two clauses over one list of signs -/
theorem ep_lc2 {l : List Nat} {b : Addr} {i j : Nat} {vs vs1 : List Nat} (f : Nat → Nat → Bool) (g : Nat → Nat → Pr) (hb : H b = some (.lst (sgs l))) (hl : l.length ≤ 100) (h : Ev tl σ H (.ref b))
    (h2 : ∀ x H1, Ex H H1 → Ev tl2 ((wipe σ vs).set i (some x)) H1 (.ref b)) (hw : ∀ x, wipe ((wipe σ vs).set i (some x)) vs = wipe σ vs)
    (hw1 : ∀ x y, wipe ((wipe ((wipe σ vs).set i (some x)) vs1).set j (some y)) vs1 = wipe ((wipe σ vs).set i (some x)) vs1)
    (ht : ∀ (x c : Nat) H1, Ex H H1 → x ∈ l → c ∈ l → EvT t ((wipe ((wipe σ vs).set i (some (.str (sgS x)))) vs1).set j (some (.str (sgS c)))) H1 (f x c))
    (he : ∀ (x c : Nat) H1, Ex H H1 → x ∈ l → c ∈ l → f x c = true → EvU te ((wipe ((wipe σ vs).set i (some (.str (sgS x)))) vs1).set j (some (.str (sgS c)))) H1 (prV (g x c))) :
    EvP (tLc2 (iList K tl) (gName i) tYes (iList K tl2) (gName j) t te vs vs1) σ H ((l.map fun x => (l.filter (f x)).map (g x)).flatten) := fun H0 e Q q => h H0 e _ fun H1 e1 => ⟨b, rfl, ⟨_, sq_of ((e.trans e1) _ _ hb)⟩, fun D hD => by
  have hb1 := (e.trans e1) _ _ hb
  let R : Nat → List Pr := fun n => ((l.take n).map fun x => (l.filter (f x)).map (g x)).flatten
  have hR : ∀ n, (R n).length ≤ l.length * l.length := fun n => by
    have h := flat_le (l := l.take n) (f := fun x => (l.filter (f x)).map (g x)) (n := l.length) fun x _ => by
      rw [List.length_map]
      exact List.length_filter_le _ _
    refine Nat.le_trans h (Nat.mul_le_mul_left _ ?_)
    rw [List.length_take]
    omega
  have hbig : l.length * l.length ≤ 10000 := Nat.mul_le_mul hl hl
  refine ⟨fun n m G => m = l.length - n ∧ n ≤ l.length ∧ Ex H1 G ∧ ∃ as, G D = some (.lst (as.map V.ref)) ∧ PrsAt G as (R n), ⟨_, rfl, Nat.zero_le _, Ex.new hD, [], upd_same, .nil⟩, ?_⟩
  rintro n m G ⟨rfl, hle, eG, as, hG, hP⟩
  have xG := sq_of (K := K) (eG _ _ hb1)
  have hlen : (sgs l).length = l.length := sgs_len l
  by_cases hlt : n < l.length
  · refine .inr ⟨walk_list.goes n G (by rw [hlen]; exact hlt) xG, fun G' => Ex H1 G' ∧ ∃ as, G' D = some (.lst (as.map V.ref)) ∧ PrsAt G' as (R (n + 1)), fun G' p => ⟨_, by omega, rfl, hlt, p.1, p.2⟩, ?_⟩
    rintro x G' yl
    obtain ⟨rfl, hxn⟩ := walk_list.yields n G x G' (by rw [hlen]; exact hlt) xG yl
    obtain ⟨c, hc, rfl⟩ : ∃ c, l[n]? = some c ∧ x = .str (sgS c) := by
      unfold sgs at hxn
      rw [List.getElem?_map] at hxn
      obtain ⟨c, hc, e⟩ := Option.map_eq_some_iff.mp hxn
      exact ⟨c, hc, e.symm⟩
    have hm : c ∈ l := List.mem_of_getElem? hc
    have hR1 : R (n + 1) = R n ++ (l.filter (f c)).map (g c) := by
      show ((l.take (n + 1)).map _).flatten = _
      rw [List.take_add_one, hc, List.map_append, List.flatten_append]
      simp [R]
    refine ⟨hw _, ?_⟩
    unfold tYes
    dsimp only
    rw [if_pos rfl]
    refine h2 _ _ (e.trans e1) G' eG _ fun G2 e2 => ⟨b, rfl, ⟨_, sq_of ((eG.trans e2) _ _ hb1)⟩, ?_⟩
    refine ⟨fun p m G => m = l.length - p ∧ p ≤ l.length ∧ Ex H1 G ∧ ∃ as, G D = some (.lst (as.map V.ref)) ∧ PrsAt G as (R n ++ ((l.take p).filter (f c)).map (g c)), ⟨_, rfl, Nat.zero_le _, eG.trans e2, as, e2 D _ hG, by simpa using PrsAt.same hP e2⟩, ?_⟩
    rintro p m G3 ⟨rfl, hle3, e3, as3, hG3, hP3⟩
    have xG3 := sq_of (K := K) (e3 _ _ hb1)
    by_cases hp : p < l.length
    · refine .inr ⟨walk_list.goes p G3 (by rw [hlen]; exact hp) xG3, fun G4 => Ex H1 G4 ∧ ∃ as, G4 D = some (.lst (as.map V.ref)) ∧ PrsAt G4 as (R n ++ ((l.take (p + 1)).filter (f c)).map (g c)), fun G4 q4 => ⟨_, by omega, rfl, hp, q4.1, q4.2⟩, ?_⟩
      rintro y G4 yl4
      obtain ⟨rfl, hyp⟩ := walk_list.yields p G3 y G4 (by rw [hlen]; exact hp) xG3 yl4
      obtain ⟨d, hd, rfl⟩ : ∃ c, l[p]? = some c ∧ y = .str (sgS c) := by
        unfold sgs at hyp
        rw [List.getElem?_map] at hyp
        obtain ⟨c, hc, e⟩ := Option.map_eq_some_iff.mp hyp
        exact ⟨c, hc, e.symm⟩
      have hdm : d ∈ l := List.mem_of_getElem? hd
      have hT : ((l.take (p + 1)).filter (f c)).map (g c) = ((l.take p).filter (f c)).map (g c) ++ (if f c d = true then [g c d] else []) := by
        rw [List.take_add_one, hd, List.filter_append, List.map_append]
        congr 1
        by_cases hf : f c d = true <;> simp [hf]
      have hl3 : as3.length ≤ 20000 := by
        rw [PrsAt.len hP3, List.length_append, List.length_map]
        have h5 := hR n
        have h6 := List.length_filter_le (f c) (l.take p)
        rw [List.length_take] at h6
        omega
      refine ⟨hw1 _ _, ht c d _ (e.trans e1) hm hdm G4 e3 _ fun G5 e5 => ?_⟩
      cases hf : f c d with
      | true =>
        refine iteT (he c d _ (e.trans e1) hm hdm hf G5 (e3.trans e5) _ fun r G6 nr e6 hr => ⟨_, e6 D _ (e5 D _ hG3), by rw [List.length_map]; exact Evl.sz_lt (by omega), Ex.mut ((e3.trans e5).trans e6) hD, as3 ++ [r], ?_, ?_⟩)
        · rw [upd_same, List.map_append]
          rfl
        · have hD6 : G6 D = some (.lst (as3.map V.ref)) := e6 D _ (e5 D _ hG3)
          rw [hT, if_pos hf, ← List.append_assoc]
          have up : ∀ {p : Addr} {q : Pr}, G6 p = some (.tup (prV q)) → (upd G6 D (.lst (as3.map V.ref ++ [V.ref r]))) p = some (.tup (prV q)) := fun h => (upd_ne (ne_of h hD6 (by intro z; cases z))).trans h
          exact prs_snoc (Paired.mapP (PrsAt.same hP3 (e5.trans e6)) fun _ _ h => up h) (up hr)
      | false =>
        refine iteF ⟨e3.trans e5, as3, e5 D _ hG3, ?_⟩
        rw [hT, if_neg (by rw [hf]; exact Bool.false_ne_true), List.append_nil]
        exact PrsAt.same hP3 e5
    · have hpe : p = l.length := by omega
      subst hpe
      refine .inl ⟨by have z := walk_list.stops G3 xG3; rw [hlen] at z; exact z, e3, as3, hG3, ?_⟩
      rw [List.take_length] at hP3
      rw [hR1]
      exact hP3
  · have hne : n = l.length := by omega
    subst hne
    have e9 : R l.length = (l.map fun x => (l.filter (f x)).map (g x)).flatten := by
      show ((l.take l.length).map _).flatten = _
      rw [List.take_length]
    rw [e9] at hP
    exact .inl ⟨by have z := walk_list.stops G xG; rw [hlen] at z; exact z, q D as G (fresh_back e1 hD) (e1.trans eG) hG hP⟩⟩
/-- over pairs that stand: those that pass, made anew -/
theorem ep_lcP {as : List Addr} {ps : List Pr} {b : Addr} {i j : Nat} {vs : List Nat} (f : Pr → Bool) (hb : H b = some (.lst (as.map V.ref))) (hP : PrsAt H as ps) (hl : ps.length ≤ 50000) (h : Ev tl σ H (.ref b))
    (hw : ∀ x y, wipe (((wipe σ vs).set i (some x)).set j (some y)) vs = wipe σ vs)
    (ht : ∀ q H1, Ex H H1 → q ∈ ps → EvT t (((wipe σ vs).set i (some (.str (stL q.1)))).set j (some (.str (stL q.2)))) H1 (f q))
    (he : ∀ q H1, Ex H H1 → q ∈ ps → EvU te (((wipe σ vs).set i (some (.str (stL q.1)))).set j (some (.str (stL q.2)))) H1 (prV q)) :
    EvP (tLc (iList K tl) (gTup K 2 (gCons (gName i) (gCons (gName j) gNil))) t te vs) σ H (ps.filter f) := fun H0 e Q q => h H0 e _ fun H1 e1 => ⟨b, rfl, ⟨_, sq_of ((e.trans e1) _ _ hb)⟩, fun D hD =>
  lc_it (walk_list (xs := as.map V.ref)) (fun i G => Ex H1 G ∧ ∃ as, G D = some (.lst (as.map V.ref)) ∧ PrsAt G as ((ps.take i).filter f)) ⟨Ex.new hD, [], upd_same, .nil⟩ (fun i G _ p => sq_of (p.1 _ _ ((e.trans e1) _ _ hb))) (by
    rintro n x G1 G2 hi ⟨eG, as2, hG, hP2⟩ ⟨rfl, hx⟩
    rw [List.getElem?_map] at hx
    obtain ⟨y, hy, rfl⟩ := Option.map_eq_some_iff.mp hx
    obtain ⟨q, hq, hyt⟩ := prs_get hP n y hy
    have hm : q ∈ ps := List.mem_of_getElem? hq
    have hn : n < ps.length := (List.getElem?_eq_some_iff.mp hq).1
    have hlen : as2.length ≤ n := by
      rw [PrsAt.len hP2]
      refine Nat.le_trans (List.length_filter_le _ _) ?_
      rw [List.length_take]
      omega
    refine ⟨y, prV q, rfl, st_of (eG _ _ ((e.trans e1) _ _ hyt)), rfl, _, _, rfl, _, _, rfl, rfl, hw _ _, ?_⟩
    refine ht q _ (e.trans e1) hm G2 eG _ fun G3 e3 => ?_
    cases hf : f q with
    | true =>
      refine iteT (he q _ (e.trans e1) hm G3 (eG.trans e3) _ fun r G4 nr e4 hr => ⟨_, e4 D _ (e3 D _ hG), by rw [List.length_map]; exact Evl.sz_lt (by omega), Ex.mut ((eG.trans e3).trans e4) hD, as2 ++ [r], ?_, ?_⟩)
      · rw [upd_same, List.map_append]
        rfl
      · have hD4 : G4 D = some (.lst (as2.map V.ref)) := e4 D _ (e3 D _ hG)
        rw [List.take_add_one, hq, List.filter_append]
        have e5 : (some q).toList.filter f = [q] := by simp [hf]
        rw [e5]
        have up : ∀ {p : Addr} {q : Pr}, G4 p = some (.tup (prV q)) → (upd G4 D (.lst (as2.map V.ref ++ [V.ref r]))) p = some (.tup (prV q)) := fun h => (upd_ne (ne_of h hD4 (by intro z; cases z))).trans h
        exact prs_snoc (Paired.mapP (PrsAt.same hP2 (e3.trans e4)) fun _ _ h => up h) (up hr)
    | false =>
      refine iteF ⟨eG.trans e3, as2, e3 D _ hG, ?_⟩
      rw [List.take_add_one, hq, List.filter_append]
      have e5 : (some q).toList.filter f = [] := by simp [hf]
      rw [e5, List.append_nil]
      exact PrsAt.same hP2 e3) (by
    rintro G ⟨eG, as2, hG, hP2⟩
    rw [List.length_map, PrsAt.len hP, List.take_length] at hP2
    exact q D as2 G (fresh_back e1 hD) (e1.trans eG) hG hP2)⟩
end
end Nm

set_option Elab.async false
set_option linter.all false
set_option maxRecDepth 100000
set_option maxHeartbeats 4000000
namespace Nm
open PySem PySem.Spec PyProof.Rows L2
/-! ### lists of pairs shown, compared -/
theorem sgn_low {c : Nat} (h : sgn c = true) : c < 1000 := by
  have h1 : SIGNS.cps.toList.all (fun c => decide (c < 1000)) = true := by decide +kernel
  exact of_decide_eq_true (List.all_eq_true.mp h1 c (of_decide_eq_true h))
theorem low_ok {l : List Nat} (h : ∀ c ∈ l, c < 1000) : PyData.strOk (stL l) = true := by
  unfold PyData.strOk
  rw [← Array.all_toList, stL_codes, List.all_eq_true]
  exact fun c hc => decide_eq_true (by have := h c hc; omega)
theorem low_sh {l : List Nat} (h : ∀ c ∈ l, c < 1000) : (stL l).cps.toList.all (fun c => decide (c < 16 ^ 8)) = true := by
  rw [stL_codes, List.all_eq_true]
  exact fun c hc => decide_eq_true (by have := h c hc; omega)
structure PrOk (q : Pr) : Prop where
  l1 : q.1.length ≤ 50
  l2 : q.2.length ≤ 50
  c1 : ∀ c ∈ q.1, c < 1000
  c2 : ∀ c ∈ q.2, c < 1000
theorem PrOk.of {q : Pr} (h1 : Wd q.1 3) (h2 : Wd q.2 3) : PrOk q := ⟨by have := h1.le; omega, by have := h2.le; omega, fun c hc => sgn_low (h1.sg c hc), fun c hc => sgn_low (h2.sg c hc)⟩
theorem prs_lay : ∀ {ps : List Pr}, (∀ q ∈ ps, PrOk q) → PyData.canLayAll0 (ps.map prD) = true
  | [], _ => rfl
  | q :: r, h => by
    have hq := h q (List.mem_cons_self ..)
    have ih := prs_lay (ps := r) fun x hx => h x (List.mem_cons_of_mem _ hx)
    simp [PyData.canLayAll0, prD, PyData.canLay0, low_ok hq.c1, low_ok hq.c2, ih]
theorem prs_show : ∀ ps : List Pr, PyData.showableAll (ps.map prD) = true
  | [] => rfl
  | q :: r => by
    have ih := prs_show r
    simp [PyData.showableAll, prD, PyData.showable, ih]
theorem prs_leaves : ∀ {ps : List Pr}, (∀ q ∈ ps, PrOk q) → PyData.leavesShortAll 40 (ps.map prD) = true
  | [], _ => rfl
  | q :: r, h => by
    have hq := h q (List.mem_cons_self ..)
    have ih := prs_leaves (ps := r) fun x hx => h x (List.mem_cons_of_mem _ hx)
    have e1 := low_sh hq.c1
    have e2 := low_sh hq.c2
    rw [List.map_cons]
    unfold PyData.leavesShortAll
    rw [ih, Bool.and_true]
    show (PyData.leavesShort 40 (.tuple [.str (stL q.1), .str (stL q.2)])) = true
    simp only [PyData.leavesShort, PyData.leavesShortAll, e1, e2, Bool.and_true]
theorem prs_depth : ∀ ps : List Pr, PyData.depthAll (ps.map prD) ≤ 1
  | [] => Nat.zero_le _
  | q :: r => by
    have ih := prs_depth r
    simp [PyData.depthAll, prD, PyData.depth]
    omega
theorem prs_bulk : ∀ {ps : List Pr}, (∀ q ∈ ps, PrOk q) → PyData.bulkAll (ps.map prD) ≤ 110 * ps.length
  | [], _ => Nat.le_refl _
  | q :: r, h => by
    have hq := h q (List.mem_cons_self ..)
    have ih := prs_bulk (ps := r) fun x hx => h x (List.mem_cons_of_mem _ hx)
    have e1 : (stL q.1).cps.size ≤ 50 := by rw [← Array.length_toList, stL_codes]; exact hq.l1
    have e2 : (stL q.2).cps.size ≤ 50 := by rw [← Array.length_toList, stL_codes]; exact hq.l2
    rw [List.map_cons, List.length_cons]
    have e3 : PyData.bulkAll (prD q :: r.map prD) = ((stL q.1).cps.size + 1 + ((stL q.2).cps.size + 1 + 0)) + 1 + PyData.bulkAll (r.map prD) := by simp [PyData.bulkAll, prD, PyData.bulk]
    omega
theorem prs_fit {ps : List Pr} (h : ∀ q ∈ ps, PrOk q) (hl : ps.length ≤ 2000) : Fit (.list (ps.map prD)) := by
  refine ⟨?_, ?_, ?_, ?_⟩
  · simpa [PyData.showable] using prs_show ps
  · simpa [PyData.leavesShort] using prs_leaves h
  · have := prs_bulk h
    simp only [PyData.bulk]
    omega
  · have := prs_depth ps
    simp only [PyData.depth]
    omega
theorem prs_plain {ps : List Pr} (h : ∀ q ∈ ps, PrOk q) : PyData.eqv (.list (ps.map prD)) (.list (ps.map prD)) = true ∧ SeqAt.shaped (.list (ps.map prD)) = true := by
  have h1 : (PyData.list (ps.map prD)).canLay0 = true := by
    simp only [PyData.canLay0]
    exact prs_lay h
  refine ⟨SeqAt.eqv_refl _ h1, ?_⟩
  unfold SeqAt.shaped
  rw [h1, Bool.true_and]
  have := prs_depth ps
  refine decide_eq_true ?_
  simp only [PyData.depth]
  omega
theorem prs_dp {K : Fg} {H : Hp} {p : Addr} {as : List Addr} {ps : List Pr} (hp : H p = some (.lst (as.map V.ref))) (hP : PrsAt H as ps) : Dp K H (.ref p) (.list (ps.map prD)) := Dz.dp (.lst hp (prs_dz hP))
section
open Evl
variable {K : Fg} {σ : L2.St} {H H' : Hp} {ta tb tc td te ty tx tl tf : TE} {t u : TT} {a p : Addr} {kvs : List (Key × V)}
theorem ev_reprP {as : List Addr} {ps : List Pr} (h : Ev tf σ H (.ref p)) (hp : H p = some (.lst (as.map V.ref))) (hP : PrsAt H as ps) (ok : ∀ q ∈ ps, PrOk q) (hl : ps.length ≤ 2000) : Ev (tCB rReprZ (tCons tf tNil)) σ H (.str (PyData.list (ps.map prD)).shown) := fun H1 e Q q =>
  h H1 e _ fun H2 e2 => ⟨.ref p, _, rfl, .lst ((e.trans e2) _ _ hp) (prs_dz (PrsAt.same hP (e.trans e2))), prs_fit ok hl, q H2 e2⟩
theorem ev_neP {as : List Addr} {ps : List Pr} (ha : EvP ta σ H ps) (h : Ev tb σ H (.ref p)) (hp : H p = some (.lst (as.map V.ref))) (hP : PrsAt H as ps) (ok : ∀ q ∈ ps, PrOk q) : Ev (tOp (rNeD K) ta tb) σ H (.bl false) := fun H1 e Q q =>
  ha H1 e _ fun p2 as2 H2 np e2 hp2 hP2 => h H2 (e.trans e2) _ fun H3 e3 => by
    refine ⟨_, _, prs_dp (e3 _ _ hp2) (PrsAt.same hP2 e3), prs_dp (((e.trans e2).trans e3) _ _ hp) (PrsAt.same hP ((e.trans e2).trans e3)), (prs_plain ok).2, (prs_plain ok).2, ?_⟩
    rw [(prs_plain ok).1]
    exact q H3 (e2.trans e3)
theorem ev_ixL {xs : List V} {i : Nat} {v : V} (ha : Ev ta σ H (.ref p)) (hb : Ev tb σ H (.int (i : Int))) (hp : H p = some (.lst xs)) (hx : xs[i]? = some v) : Ev (tOp (rIxL K) ta tb) σ H v :=
  ev_op ha hb fun H1 e Q q => ⟨p, xs, i, v, rfl, rfl, sq_of (e _ _ hp), atI_nat hx, q H1 (Ex.refl _)⟩
theorem ev_ixT {xs : List V} {i : Nat} {v : V} (ha : Ev ta σ H (.ref p)) (hb : Ev tb σ H (.int (i : Int))) (hp : H p = some (.tup xs)) (hx : xs[i]? = some v) : Ev (tOp (rIxT K) ta tb) σ H v :=
  ev_op ha hb fun H1 e Q q => ⟨p, xs, i, v, rfl, rfl, st_of (e _ _ hp), atI_nat hx, q H1 (Ex.refl _)⟩
/-! ### rules and tables in lists -/
abbrev Ru := Fds × Mks
def RuAt (H : Hp) (t : Addr) (r : Ru) : Prop := ∃ pf pm, H t = some (.tup [.ref pf, .ref pm]) ∧ H pf = some (.dK (kF r.1)) ∧ H pm = some (.dK (kM r.2))
theorem RuAt.same {t : Addr} {r : Ru} (h : RuAt H t r) (s : Same H H') : RuAt H' t r := by
  obtain ⟨pf, pm, h1, h2, h3⟩ := h
  exact ⟨pf, pm, s _ _ h1, s _ _ h2, s _ _ h3⟩
/-- a list changes: the rest stays -/
theorem upd_lst {L x : Addr} {xs : List V} {o u : HO} (hL : H L = some (.lst xs)) (h : H x = some u) (ne : u ≠ .lst xs) : (upd H L o) x = some u := (upd_ne (fun z => by rw [z, hL] at h; cases h; exact ne rfl)).trans h
theorem RuAt.mutL {t L : Addr} {r : Ru} {xs : List V} {o : HO} (h : RuAt H t r) (hL : H L = some (.lst xs)) : RuAt (upd H L o) t r := by
  obtain ⟨pf, pm, h1, h2, h3⟩ := h
  exact ⟨pf, pm, upd_lst hL h1 (by intro z; cases z), upd_lst hL h2 (by intro z; cases z), upd_lst hL h3 (by intro z; cases z)⟩
theorem TabAt.mutL {C a L : Addr} {fs : Fds} {ms : Mks} {xs : List V} {o : HO} (h : TabAt C H a fs ms) (hL : H L = some (.lst xs)) : TabAt C (upd H L o) a fs ms := by
  obtain ⟨dx, p, q, h1, h2, h3⟩ := h
  exact ⟨dx, p, q, upd_lst hL h1 (by intro z; cases z), upd_lst hL h2 (by intro z; cases z), upd_lst hL h3 (by intro z; cases z)⟩
abbrev RusAt (H : Hp) (ts : List Addr) (rs : List Ru) : Prop := Paired (fun t r => RuAt H t r) ts rs
abbrev TabsAt (C : Addr) (H : Hp) (xs : List Addr) (rs : List Ru) : Prop := Paired (fun x (r : Ru) => TabAt C H x r.1 r.2) xs rs
theorem paired_get {α β : Type} {R : α → β → Prop} {as : List α} {bs : List β} (h : Paired R as bs) : ∀ {i : Nat} {x : α}, as[i]? = some x → ∃ y, bs[i]? = some y ∧ R x y := by
  induction h with
  | nil =>
    intro i x h
    simp at h
  | cons e t ih =>
    intro i x h
    cases i with
    | zero =>
      rename_i a b _ _
      have h' : a = x := by simpa using h
      subst h'
      exact ⟨b, rfl, e⟩
    | succ i => exact ih (by simpa using h)
theorem paired_snoc {α β : Type} {R : α → β → Prop} {as : List α} {bs : List β} {x : α} {y : β} (h : Paired R as bs) (e : R x y) : Paired R (as ++ [x]) (bs ++ [y]) := by
  induction h with
  | nil => exact .cons e .nil
  | cons e1 t ih => exact .cons e1 ih
/-- a new list of new tables -/
def EvTabs (C : Addr) (te : TE) (σ : L2.St) (H : Hp) (rs : List Ru) : Prop := ∀ H1, Ex H H1 → ∀ Q : VK, (∀ p xs H2, H1 p = none → Ex H1 H2 → H2 p = some (.lst (xs.map V.ref)) → TabsAt C H2 xs rs → Q (.ref p) H2) → te σ H1 Q
theorem el_tabs {C L : Addr} {ts : List Addr} {rs : List Ru} {j : Nat} {vs : List Nat} {E : XK} (hL : H L = some (.lst (ts.map V.ref))) (hR : RusAt H ts rs) (ok : ∀ r ∈ rs, RuleOk r.1 r.2) (hn : rs.length ≤ 1000) (h : Ev tl σ H (.ref L))
    (hw : ∀ x, wipe ((wipe σ vs).set j (some x)) vs = wipe σ vs) (hv : ∀ x, ((wipe σ vs).set j (some x))[j]? = some (some x)) :
    EvTabs C (tLc (iList K tl) (gName j) tYes (tMake C (spInitT C) [] E (tCons (tOp (rIxT K) (tVar j) (tC (.int 0))) (tCons (tOp (rIxT K) (tVar j) (tC (.int 1))) tNil))) vs) σ H rs := fun H0 e Q q => h H0 e _ fun H1 e1 => ⟨L, rfl, ⟨_, sq_of ((e.trans e1) _ _ hL)⟩, fun D hD =>
  lc_it (walk_list (xs := ts.map V.ref)) (fun i G => Ex H1 G ∧ ∃ xs, G D = some (.lst (xs.map V.ref)) ∧ TabsAt C G xs (rs.take i)) ⟨Ex.new hD, [], upd_same, .nil⟩ (fun i G _ p => sq_of (p.1 _ _ ((e.trans e1) _ _ hL))) (by
    rintro i x G1 G2 hi ⟨eG, xs, hG, hP⟩ ⟨rfl, hx⟩
    rw [List.getElem?_map] at hx
    obtain ⟨t, ht, rfl⟩ := Option.map_eq_some_iff.mp hx
    obtain ⟨r, hr, hra⟩ := paired_get hR ht
    have hm : r ∈ rs := List.mem_of_getElem? hr
    have hlt : i < rs.length := (List.getElem?_eq_some_iff.mp hr).1
    obtain ⟨pf, pm, h1, h2, h3⟩ := hra.same ((e.trans e1).trans eG)
    have hlen : xs.length ≤ i := by
      rw [Paired.length hP, List.length_take]
      omega
    refine ⟨hw _, ?_⟩
    unfold tYes
    dsimp only
    rw [if_pos rfl]
    refine ⟨_, hv _, t, _, 0, _, rfl, rfl, st_of h1, rfl, _, hv _, t, _, 1, _, rfl, rfl, st_of h1, rfl, fun x dx nx ndx nex => ?_⟩
    have s4m : ∀ {p : Addr} {o : HO}, G2 p = some o → (upd (upd G2 dx (.own x)) x (.ins C dx [])) p = some o := fun e => by rw [upd_ne (ne_of_none e nx), upd_ne (ne_of_none e ndx)]; exact e
    refine ⟨x, dx, pf, pm, r.1, r.2, rfl, upd_same, s4m h2, s4m h3, ok r hm, fun H5 p pq np nq npq hx hp hq keep => ⟨rfl, ?_⟩⟩
    have s45 : Same G2 H5 := fun p o e => keep p o (ne_of_none e nx) (s4m e)
    have ht5 : TabAt C H5 x r.1 r.2 := ⟨dx, p, pq, hx, hp, hq⟩
    refine ⟨_, s45 _ _ hG, by rw [List.length_map]; exact Evl.sz_lt (by omega), Ex.mut (eG.trans s45) hD, xs ++ [x], ?_, ?_⟩
    · rw [upd_same, List.map_append]
      rfl
    · rw [List.take_add_one, hr]
      have hD5 := s45 _ _ hG
      exact paired_snoc (Paired.mapP hP fun _ _ h => (TabAt.same h s45).mutL hD5) (ht5.mutL hD5)) (by
    rintro G ⟨eG, xs, hG, hP⟩
    rw [List.length_map, Paired.length hR, List.take_length] at hP
    exact q D xs G (fresh_back e1 hD) (e1.trans eG) hG hP)⟩
end
end Nm

set_option Elab.async false
set_option linter.all false
set_option maxRecDepth 100000
set_option maxHeartbeats 4000000
namespace Nm
open PySem PySem.Spec PyProof.Rows L2
/-! ### len, repr, str, ==, != of an instance whose class has methods for them -/
section
variable {X : Cx} {CX : CXT} {n : Nat} {A : Around} {pins : List (Addr × Obj)} {σ : L2.St} {H : Hp} {s : Shared} {f C : Addr} {fd : FuncData} {ps : List Str} {sp : Sp} {E : XK}
theorem own_call {us : List Value} {vs : List V} {Q : VK} (F : FnOk X.prog X.w X.K X.mg X.base CX n f fd ps sp) (hb : Binds X.K fd ps []) (hx : Passes CX X E) (sb : Sub X n A) (I : Inv X pins σ H s) (r : Vals vs us) (h : sp vs H Q E) :
    wpAny (model X.prog X.w) A (call (.ref f) us) (EP X pins σ Q) X.xe s := by
  have e0 : Env0 X.prog X.w X.K X.mg X.base A X.stack s H := by
    have e := I.env0
    exact ⟨by rw [sb.fr]; exact e.frames, e.mod, e.bs, e.bsz, e.funs, e.frf, e.hok, e.bare⟩
  have hl := F.len _ _ _ _ h
  refine wpAny_call (codeAny_mono (F.run A X.stack s H ⟨us, []⟩ us vs _ E sb.room e0 (by
    have := hb s us I.kIn (by rw [List.append_nil, ← r.length]; exact hl)
    simpa using this) r h) fun r s' hq => ?_)
  cases r with
  | error e => exact hx pins σ H s e s' I hq
  | ok fl =>
    cases fl with
    | ret w => exact I.after hq
    | next => exact False.elim hq
    | brk => exact False.elim hq
    | cont => exact False.elim hq
/-- a method of the class at C by its name -/
structure OwnM (K : Fg) (C : Addr) (nm : String) (f : Addr) : Prop where
  at' : PySem.W.findIn K (.ref C) nm = some (some (.ref f))
  fn : PySem.W.isFn K (.ref f) = true
def rLenO (C : Addr) (sp : Sp) (E : XK) : List V → Hp → VK → Prop := fun xs H Q => ∃ a dx fs, xs = [.ref a] ∧ H a = some (.ins C dx fs) ∧ sp [.ref a] H (fun v H' => ∃ m : Nat, v = .int (m : Int) ∧ m ≤ 100000 ∧ Q (.int (m : Int)) H') E
theorem call_lenO (o : OwnM X.K C "__len__" f) (F : FnOk X.prog X.w X.K X.mg X.base CX n f fd ps sp) (hb : Binds X.K fd ps []) (hx : Passes CX X E) (hr : Room (n + 1) X.A) : CallR X (.builtin "len") (rLenO C sp E) := by
  intro pins s σ H xs us Q I r h
  obtain ⟨a, dx, fs, rfl, ha, h⟩ := h
  obtain ⟨u, rfl, rx⟩ := vals1 r
  cases rx
  obtain ⟨mA, J, _⟩ := ins_get I.hok ha
  obtain ⟨od, J, _⟩ := J.look
  obtain ⟨m, hF⟩ := I.fr
  have sb : Sub X n X.A.in1 := Sub.in1 ⟨hr, rfl⟩
  refine PySem.W.len_K hF I.ok.mod.kin J o.at' o.fn (wpAny_mono (own_call F hb hx sb I r h) (fun v s' q => ?_) fun _ _ x => x)
  obtain ⟨z, H', I', rz, k, rfl, hk, q⟩ := q
  obtain ⟨t, rfl⟩ := rz
  exact ⟨⟨by omega, by omega⟩, .int k, H', I'.tok _, ⟨_, rfl⟩, q⟩
def rStrO (C : Addr) (sp : Sp) (E : XK) : List V → Hp → VK → Prop := fun xs H Q => ∃ a dx fs, xs = [.ref a] ∧ H a = some (.ins C dx fs) ∧ sp [.ref a] H (fun v H' => ∃ z : Str, v = .str z ∧ Q (.str z) H') E
theorem call_reprO (o : OwnM X.K C "__repr__" f) (F : FnOk X.prog X.w X.K X.mg X.base CX n f fd ps sp) (hb : Binds X.K fd ps []) (hx : Passes CX X E) (hr : Room (n + 1) X.A) : CallR X (.builtin "repr") (rStrO C sp E) := by
  intro pins s σ H xs us Q I r h
  obtain ⟨a, dx, fs, rfl, ha, h⟩ := h
  obtain ⟨u, rfl, rx⟩ := vals1 r
  cases rx
  obtain ⟨mA, J, _⟩ := ins_get I.hok ha
  obtain ⟨od, J, _⟩ := J.look
  obtain ⟨m, hF⟩ := I.fr
  have sb : Sub X n X.A.in1 := Sub.in1 ⟨hr, rfl⟩
  refine PySem.W.repr_K sb.room.units0 hF I.ok.mod.kin J o.at' o.fn (wpAny_mono (own_call F hb hx sb I r h) (fun v s' q => ?_) fun _ _ x => x)
  obtain ⟨z, H', I', rz, k, rfl, q⟩ := q
  obtain ⟨t, rfl⟩ := rz
  exact ⟨.str k, H', I', ⟨_, rfl⟩, q⟩
theorem call_strO (o : OwnM X.K C "__str__" f) (F : FnOk X.prog X.w X.K X.mg X.base CX n f fd ps sp) (hb : Binds X.K fd ps []) (hx : Passes CX X E) (hr : Room (n + 2) X.A) : CallR X (.type "str") (rStrO C sp E) := by
  intro pins s σ H xs us Q I r h
  obtain ⟨a, dx, fs, rfl, ha, h⟩ := h
  obtain ⟨u, rfl, rx⟩ := vals1 r
  cases rx
  obtain ⟨mA, J, _⟩ := ins_get I.hok ha
  obtain ⟨od, J, _⟩ := J.look
  have sb : Sub X n X.A.in1.in1 := Sub.in1 (Sub.in1 ⟨hr, rfl⟩)
  refine PySem.W.kso_call sb.room.units0 I.kIn J o.at' o.fn (wpAny_mono (own_call F hb hx sb I r h) (fun v s' q => ?_) fun _ _ x => x)
  obtain ⟨z, H', I', rz, k, rfl, q⟩ := q
  obtain ⟨t, rfl⟩ := rz
  exact ⟨.str k, H', I', ⟨_, rfl⟩, q⟩
end
section
variable {prog : Program} {w : World} {A : Around} {E : Value → Shared → Prop} {s : Shared} {K : Fg} {x C L f : Addr} {h₀ : Heap} {m : Str → Option Value} {ox : Obj} {od : Option Obj} {b tb : Value}
open PySem.W in
theorem ne_bind : ∀ self, bindSpecial (.builtin "object.__ne__") self = pure (.builtin "object.__ne__", [self]) := PySem.F.slot_enumerate_ne.bind
open PySem.W Builtin in
theorem ne_body {Q : Fin → Shared → Prop} (hu : A.units < cLine) (X : K.In s.heap) (I : InstAt s.heap x ox C od) (he : findIn K (.ref C) "__eq__" = some (some (.ref f))) (hf : isFn K (.ref f) = true)
    (h : wpAny (model prog w) A (call (.ref f) [.ref x, b]) (fun v s' => ∃ r, v = .bool r ∧ Q (.done (.ret (.bool (!r)))) s') E s) : wpAny (model prog w) A (Builtin.«object.__ne__» ⟨[.ref x, b], []⟩) Q E s := by
  unfold Builtin.«object.__ne__»
  refine wpAny_bind (m := slotArgs "__ne__" 1 _) (wpAny_pure ?_)
  refine wpAny_bind (m := cRoomFor _ _) (wpAny_cRoomFor hu ?_)
  refine wpAny_bind (m := callSpecialIfBound? (.ref x) (Str.ofString "__eq__") [b]) (ifBound_K X I he hf (wpAny_mono h (fun v s' hr => ?_) fun _ _ e => e))
  obtain ⟨r, rfl, hq⟩ := hr
  repeat (first | exact hq | exact wpAny_pure hq | exact wpAny_truthy_bool hq | (refine wpAny_bind (m := truthy (.bool _)) (wpAny_truthy_bool ?_)) | wp_step)
open PySem.W in
theorem ne_K {Q : Value → Shared → Prop} (hu0 : A.units < cLine) (hu : A.in1.units < cLine) (F : Fr h₀ L s.heap m) (X₀ : K.In h₀) (I : InstAt s.heap x ox C od) (hb : Looks (model prog w) s.heap (typeOf b) tb) (hn : notFirst K C tb = true)
    (hne : findIn K (.ref C) "__ne__" = some (some (.builtin "object.__ne__"))) (he : findIn K (.ref C) "__eq__" = some (some (.ref f))) (hf : isFn K (.ref f) = true) (hm : mroIn K C (.type "object") = some true)
    (h : wpAny (model prog w) A.in1 (call (.ref f) [.ref x, b]) (fun v s' => ∃ r, v = .bool r ∧ Q (.bool (!r)) s') E s) : wpAny (model prog w) A (richCompare .NotEq (.ref x) b) Q E s := by
  have X := X₀.keeps F.keep
  have body : wpAny (model prog w) A (call (.builtin "object.__ne__") [.ref x, b]) (fun v s' => ∃ r, v = .bool r ∧ Q (.bool r) s') E s :=
    wpAny_call (codeAny_call_builtin PySem.F.slot_enumerate_ne.plain PySem.F.cmpEntry_ne (check_slot PySem.F.cmpKind_ne PySem.F.cmpSplit_ne (I.type.andThen (looks_mroIn X hm)) (PySem.F.cmpArgs_ne _ _) (ne_body hu X I he hf (wpAny_mono h (fun v s' hr => by
      obtain ⟨r, rfl, hq⟩ := hr
      exact ⟨r, rfl, ⟨!r, rfl, hq⟩⟩) fun _ _ e => e))))
  have one : wpAny (model prog w) A (tryCompare (.ref x) "__ne__" b) (fun r s' => ∃ v, r = some v ∧ Q v s') E s := by
    unfold tryCompare
    refine wpAny_bind ?_
    simp only [callSpecialIfBound?, bindSpecialIfBound?]
    refine wpAny_holding (wpAny_bind (wpAny_bind (wpAny_bind (I.type.here ((looks_findIn X hne).here ?_)))))
    refine wpAny_bind (wpAny_askSetting (wpAny_ite ?_))
    have fin : wpAny (model prog w) A (call (.builtin "object.__ne__") ([.ref x] ++ [b]) >>= fun v => pure (some v)) (fun o s' => wpAny (model prog w) A (match o with
        | some .notImplemented => pure none
        | none => pure none
        | some v => pure (some v)) (fun r s' => ∃ v, r = some v ∧ Q v s') E s') E s := wpAny_bind (wpAny_mono body (fun v s' h' => by
      obtain ⟨r, rfl, hq⟩ := h'
      exact wpAny_pure (wpAny_pure ⟨_, rfl, hq⟩)) fun _ _ h' => h')
    split
    · exact wpAny_bind ((Looks.of_pure (ne_bind _)).here (wpAny_pure (by exact fin)))
    · exact wpAny_tryCatch (wpAny_bind ((Looks.of_pure (ne_bind _)).here (wpAny_pure (by exact fin))))
  unfold richCompare
  simp only [oneThing_ref]
  refine wpAny_holding (wpAny_bind (wpAny_cRoomFor hu0 ?_))
  refine wpAny_bind (I.type.here (wpAny_bind (hb.here ?_)))
  split
  · rename_i q
    have e : subIn K tb (.ref C) = some false := by
      rcases Bool.or_eq_true_iff.mp hn with e | e
      · rw [beq_iff_eq.mp e] at q; simp at q
      · exact beq_iff_eq.mp e
    refine wpAny_bind ((looks_subIn X e).here ?_)
    simp only [Bool.false_eq_true, if_false]
    refine wpAny_bind (wpAny_mono one (fun r s' z => ?_) fun _ _ e => e)
    obtain ⟨v, rfl, hq⟩ := z
    exact wpAny_pure hq
  · refine wpAny_bind (wpAny_pure ?_)
    simp only [Bool.false_eq_true, if_false]
    refine wpAny_bind (wpAny_mono one (fun r s' z => ?_) fun _ _ e => e)
    obtain ⟨v, rfl, hq⟩ := z
    exact wpAny_pure hq
end
section
variable {X : Cx} {CX : CXT} {n : Nat} {A : Around} {pins : List (Addr × Obj)} {σ : L2.St} {H : Hp} {s : Shared} {f C : Addr} {fd : FuncData} {ps : List Str} {sp : Sp} {E : XK}
def rEqO (K : Fg) (C : Addr) (sp : Sp) (E : XK) : R2 := fun x y H Q => ∃ a dx fs t, x = .ref a ∧ H a = some (.ins C dx fs) ∧ TyX K H y t ∧ PySem.W.notFirst K C t = true ∧ sp [.ref a, y] H (fun v H' => ∃ r : Bool, v = .bl r ∧ Q (.bl r) H') E
def rNeO (K : Fg) (C : Addr) (sp : Sp) (E : XK) : R2 := fun x y H Q => ∃ a dx fs t, x = .ref a ∧ H a = some (.ins C dx fs) ∧ TyX K H y t ∧ PySem.W.notFirst K C t = true ∧ sp [.ref a, y] H (fun v H' => ∃ r : Bool, v = .bl r ∧ Q (.bl (!r)) H') E
theorem op_eqO (o : OwnM X.K C "__eq__" f) (F : FnOk X.prog X.w X.K X.mg X.base CX n f fd ps sp) (hb : Binds X.K fd ps []) (hx : Passes CX X E) (hr : Room n X.A) : OpR X (compareOp .Eq) (rEqO X.K C sp E) := by
  intro pins s σ H x y v u Q I rx ry h
  obtain ⟨a, dx, fs, t, rfl, ha, ty, hn, h⟩ := h
  cases rx
  obtain ⟨mA, J, _⟩ := ins_get I.hok ha
  obtain ⟨od, J, _⟩ := J.look
  obtain ⟨m, hF⟩ := I.fr
  obtain ⟨P, kx, hP, _⟩ := kit_of I ry ty
  show wpAny (model X.prog X.w) X.A (richCompare .Eq (.ref a) u) (EP X pins σ Q) X.xe s
  refine PySem.W.cmp_K (op := .Eq) hr.units0 hF I.ok.mod.kin J (kx.ty _ _ I.kIn hP) hn o.at' o.fn (wpAny_mono (own_call F hb hx ⟨hr, rfl⟩ I (.cons (show L2.RelV (.ref a) (.ref a) from rfl) (.cons ry .nil)) h) (fun v s' q => ?_) fun _ _ x => x)
  obtain ⟨z, H', I', rz, r, rfl, q⟩ := q
  cases rz
  exact ⟨.bl r, H', I', rfl, q⟩
theorem op_neO (o : OwnM X.K C "__eq__" f) (hne : PySem.W.findIn X.K (.ref C) "__ne__" = some (some (.builtin "object.__ne__"))) (hm : PySem.W.mroIn X.K C (.type "object") = some true) (F : FnOk X.prog X.w X.K X.mg X.base CX n f fd ps sp) (hb : Binds X.K fd ps []) (hx : Passes CX X E) (hr : Room (n + 1) X.A) : OpR X (compareOp .NotEq) (rNeO X.K C sp E) := by
  intro pins s σ H x y v u Q I rx ry h
  obtain ⟨a, dx, fs, t, rfl, ha, ty, hn, h⟩ := h
  cases rx
  obtain ⟨mA, J, _⟩ := ins_get I.hok ha
  obtain ⟨od, J, _⟩ := J.look
  obtain ⟨m, hF⟩ := I.fr
  obtain ⟨P, kx, hP, _⟩ := kit_of I ry ty
  have sb : Sub X n X.A.in1 := Sub.in1 ⟨hr, rfl⟩
  show wpAny (model X.prog X.w) X.A (richCompare .NotEq (.ref a) u) (EP X pins σ Q) X.xe s
  refine ne_K hr.units0 sb.room.units0 hF I.ok.mod.kin J (kx.ty _ _ I.kIn hP) hn hne o.at' o.fn hm (wpAny_mono (own_call F hb hx sb I (.cons (show L2.RelV (.ref a) (.ref a) from rfl) (.cons ry .nil)) h) (fun v s' q => ?_) fun _ _ x => x)
  obtain ⟨z, H', I', rz, r, rfl, q⟩ := q
  cases rz
  exact ⟨r, rfl, .bl (!r), H', I', rfl, q⟩
end
end Nm

set_option Elab.async false
set_option linter.all false
set_option maxRecDepth 100000
set_option maxHeartbeats 4000000
namespace Nm
open PySem PySem.Spec PyProof.Rows L2
/-! ### *d of a dict in a display -/
section
variable {X : Cx} {pins : List (Addr × Obj)} {σ : L2.St} {H : Hp} {s : Shared}
theorem star_dK {a : Addr} {kvs : List (Key × V)} {E : Value → Shared → Prop} {Q : List Value → Shared → Prop} (hcalm : X.calm = true) (I : Inv X pins σ H s) (hd : Rd H a (.dK kvs)) (hQ : ∀ us s', Inv X pins σ H s' → Vals (kvs.map fun kv => kV kv.1) us → Q us s') : PySem.W.StarOf (model X.prog X.w) X.A E (.ref a) Q s := by
  obtain ⟨z, lo, vs, rel, dd⟩ := dk_rd I.hok hd
  obtain ⟨ep, hat⟩ := dd.dictAt
  have ek : (kvs.map fun kv => kV kv.1) = vs.map fun p => kV p.1 := by
    have e := congrArg (List.map kV) rel.keys
    rw [List.map_map, List.map_map] at e
    exact e
  unfold PySem.W.StarOf notIterableAtAll
  refine wpAny_bind (wpAny_specialOf dd.typeIs PySem.F.slot_dict_iter.lookup (wpAny_pure ⟨rfl, ?_⟩))
  refine PySem.W.kdu_collect (A := X.A) (PySem.W.kdl_dict (knd := mixKind X.prog X.w) (kvs := vs) (ep := ep) lo) (I.ok.hd hcalm) hat (by rw [← rel.length]; exact z) fun h' tk acc hk hacc => ?_
  have hv : Vals (vs.map fun p => kV p.1) acc.toList := keys_at (by rw [Array.length_toList]; exact hacc.1) fun j v e => hacc.2 j v (by rw [← Array.getElem?_toList]; exact e)
  exact hQ acc.toList _ (I.kept (t' := tk) hk) (by rw [ek]; exact hv)
def tStarD (te : TE) (t : TA) : TA := fun σ H Q => te σ H fun x H1 => ∃ p kvs, x = V.ref p ∧ Rd H1 p (.dK kvs) ∧ t σ H1 fun ys H2 => Q ((kvs.map fun kv => kV kv.1) ++ ys) H2
theorem pa_starD {e : Expr} {te : TE} {es : List Expr} {t : TA} {p : Pos} (hcalm : X.calm = true) (he : PE X e te) (hr : PA X es t) (hs : starEach (.Starred e p :: es) X.env = (true, eval e X.env) :: starEach es X.env := by rfl) : PA X (.Starred e p :: es) (tStarD te t) := by
  refine ⟨fun pos pins s σ H Q I h => ?_⟩
  refine PySem.W.items_star (thn (he.run pins s σ H _ I h) fun v s1 ⟨y, H1, I1, ry, a, kvs, ey, hx, q⟩ => ?_) hs
  subst ey
  obtain rfl : v = Value.ref a := ry
  refine star_dK hcalm I1 hx fun us s2 I2 rv => ?_
  exact thn (hr.run pos pins s2 σ H1 _ I2 q) fun ws s3 ⟨vs, H3, I3, r3, q3⟩ => ⟨_, H3, I3, rv.append r3, q3⟩
end
end Nm

set_option Elab.async false
set_option linter.all false
set_option maxRecDepth 100000
set_option maxHeartbeats 4000000
namespace Nm
open PySem PySem.Spec PyProof.Rows L2
/-! ### an int written with two digits -/
def two (n : Nat) : Str := if n < 10 then (⟨#[48, 48 + n]⟩ : Str) else ⟨#[]⟩
theorem gives02 {n : Nat} (hn : n < 10) (t u : Tok) : Gives (Builtin.«int.__format__» ⟨[.int (n : Int) t, .str "02d" u], []⟩) (.str (two n)) := by
  have go : ∀ k : Nat, k < 10 → n = k → Gives (Builtin.«int.__format__» ⟨[.int (n : Int) t, .str "02d" u], []⟩) (.str (two n)) := by
    intro k hk e
    subst e
    unfold Builtin.«int.__format__»
    refine gives_after_typeNameOf (T := "str") (fun s => typeIs_str s _ _) (by decide) fun _ => ?_
    intro prog w A R s hq
    refine wpAny_bind (m := asStr? _) (wpAny_pure ?_)
    show wpAny _ _ (if _ then _ else _) _ _ _
    rw [if_neg (by decide +kernel)]
    show wpAny _ _ (if _ then _ else _) _ _ _
    rw [if_neg (by decide +kernel)]
    refine wpAny_bind (wpAny_typeNameOfCut_int ?_)
    revert hk
    match n with
    | 0 => intro _; exact Gives.of_eq rfl prog w A R s hq
    | 1 => intro _; exact Gives.of_eq rfl prog w A R s hq
    | 2 => intro _; exact Gives.of_eq rfl prog w A R s hq
    | 3 => intro _; exact Gives.of_eq rfl prog w A R s hq
    | 4 => intro _; exact Gives.of_eq rfl prog w A R s hq
    | 5 => intro _; exact Gives.of_eq rfl prog w A R s hq
    | 6 => intro _; exact Gives.of_eq rfl prog w A R s hq
    | 7 => intro _; exact Gives.of_eq rfl prog w A R s hq
    | 8 => intro _; exact Gives.of_eq rfl prog w A R s hq
    | 9 => intro _; exact Gives.of_eq rfl prog w A R s hq
    | _ + 10 => intro h; exact absurd h (by omega)
  exact go n hn rfl
def tFmt02 (te : TE) : TE := fun σ H Q => te σ H fun x H1 => ∃ n : Nat, x = .int (n : Int) ∧ n < 10 ∧ Q (.str (two n)) H1
theorem pe_fmt02 {X : Cx} {e : Expr} {te : TE} {pos p1 p2 : Pos} {k : Nat} (he : PE X e te) : PE X (.FormattedValue e (-1) (some (.JoinedStr [.Constant (.str "02d") k p1] p2)) pos) (tFmt02 te) := by
  refine ⟨fun pins s σ H Q I h => ?_⟩
  refine wpAny_FormattedValue_spec (thn (he.run pins s σ H _ I h) fun v s1 ⟨x, H1, I1, r1, n, ex, hn, q⟩ => ?_)
  subst ex
  obtain ⟨t, rfl⟩ := r1
  refine thn ((pe_joined1 (X := X) (pos := p2) (pe_str (X := X) (x := "02d") (pos := p1))).run pins s1 σ H1 (fun z H2 => z = .str "02d" ∧ H2 = H1) I1 ⟨rfl, rfl⟩) fun r s2 ⟨z, H2, I2, r2, ez, eH⟩ => ?_
  subst ez
  subst eH
  obtain ⟨t2, rfl⟩ := r2
  refine ⟨_, _, rfl, wpAny_formatField_spec (T := "int") (by decide +kernel) (fun s' => typeIs_int s' _ _) PySem.F.slot_int_format PySem.F.entry_int_format PySem.F.args_int_format_2 (fun u => gives02 hn t u) ⟨.str (two n), H2, I2.tok _, ⟨_, rfl⟩, q⟩ ?_ ?_⟩
  · decide +kernel
  · unfold two
    rw [if_pos hn]
    show 2 ≤ sizeLine
    decide
end Nm

set_option Elab.async false
set_option linter.all false
set_option maxRecDepth 100000
set_option maxHeartbeats 4000000
namespace Nm
open PySem PySem.Spec PyProof.Rows L2
/-! ### two dicts compared, of texts or of ints -/
def flatP : V → V → Bool
  | .str _, .str _ => true
  | .int _, .int _ => true
  | _, _ => false
def flatE : V → V → Bool
  | .str a, .str b => a == b
  | .int a, .int b => a == b
  | _, _ => false
theorem eqAt_flat {A : Around} {s : Shared} {v v' : V} {u u' : Value} (r : RelV v u) (r' : RelV v' u') (f : flatP v v' = true) : SeqAt.EqAt A s u u' (flatE v v') := by
  cases v <;> cases v' <;> first | exact absurd (show false = true from f) Bool.false_ne_true | skip
  · obtain ⟨t, rfl⟩ := r
    obtain ⟨t', rfl⟩ := r'
    exact SeqAt.EqAt.int_int (A := A) (s := s) _ t _ t'
  · obtain ⟨t, rfl⟩ := r
    obtain ⟨t', rfl⟩ := r'
    exact SeqAt.EqAt.str_str (A := A) (s := s) _ t _ t'
def kvAll (ls : List (Key × V)) : List (Key × V) → Bool
  | [] => true
  | p :: r => (match valV ls p.1 with
    | some v => flatE p.2 v
    | none => false) && kvAll ls r
theorem hits_gen {A : Around} {s : Shared} {ls : List (Key × V)} {vb : List (Key × Value)} (rb : KV ls vb) {ks : List (Key × V)} {va : List (Key × Value)} (ra : KV ks va) :
    (∀ p ∈ ks, ∀ v, valV ls p.1 = some v → flatP p.2 v = true) → PySem.W.KeqHits A s vb va (kvAll ls ks) := by
  unfold KV at ra
  induction ra with
  | nil => intro _; exact .nil
  | @cons p q ps qs h t ih =>
    intro hp
    obtain ⟨h1, h2⟩ := h
    obtain ⟨k, v⟩ := q
    have h1' : p.1 = k := h1
    have hv := rb.val p.1
    show PySem.W.KeqHits A s vb ((k, v) :: qs) ((match valV ls p.1 with | some v => flatE p.2 v | none => false) && kvAll ls ps)
    cases e : valV ls p.1 with
    | none =>
      rw [e, h1'] at hv
      cases e2 : valueAt vb k with
      | none => exact .miss e2
      | some y => rw [e2] at hv; exact absurd hv (by intro z; cases z)
    | some z =>
      have f := hp p List.mem_cons_self z e
      have rr : RelO (some z) (valueAt vb p.1) := by rw [← e]; exact rb.val p.1
      obtain ⟨y, hy, ry⟩ := rr.some_of
      rw [h1'] at hy
      exact .hit hy (eqAt_flat h2 ry f) (ih fun p' hm => hp p' (List.mem_cons_of_mem _ hm))
def rEqDG : R2 := fun x y H Q => ∃ a b ks ls, x = .ref a ∧ y = .ref b ∧ H a = some (.dK ks) ∧ H b = some (.dK ls) ∧ (∀ p ∈ ks, ∀ v, valV ls p.1 = some v → flatP p.2 v = true) ∧ Q (.bl (decide (ks.length = ls.length) && kvAll ls ks)) H
def rNeDG : R2 := fun x y H Q => ∃ a b ks ls, x = .ref a ∧ y = .ref b ∧ H a = some (.dK ks) ∧ H b = some (.dK ls) ∧ (∀ p ∈ ks, ∀ v, valV ls p.1 = some v → flatP p.2 v = true) ∧ Q (.bl (!(decide (ks.length = ls.length) && kvAll ls ks))) H
section
variable {X : Cx}
theorem op_eqDG (hu : X.A.units < cLine) : OpR X (compareOp .Eq) rEqDG := by
  intro pins s σ H x y v u Q I rx ry h
  obtain ⟨a, b, ks, ls, rfl, rfl, ea, eb, fl, q⟩ := h
  cases rx
  cases ry
  obtain ⟨_, ya, va, ra, da⟩ := (show ObjOk X.prog X.w H s.heap a (.dK ks) from I.hok a _ ea)
  obtain ⟨_, yb, vb, rb, db⟩ := (show ObjOk X.prog X.w H s.heap b (.dK ls) from I.hok b _ eb)
  refine PySem.W.keq_eq (knd := mixKind X.prog X.w) (r := kvAll ls ks) ya yb da db hu (fun _ => hits_gen rb ra fl) ⟨.bl _, H, I, rfl, ?_⟩
  have e : (va.length == vb.length) = decide (ks.length = ls.length) := by rw [← ra.length, ← rb.length]; rfl
  rw [e]
  exact q
theorem op_neDG (hu : X.A.units < cLine) : OpR X (compareOp .NotEq) rNeDG := by
  intro pins s σ H x y v u Q I rx ry h
  obtain ⟨a, b, ks, ls, rfl, rfl, ea, eb, fl, q⟩ := h
  cases rx
  cases ry
  obtain ⟨_, ya, va, ra, da⟩ := (show ObjOk X.prog X.w H s.heap a (.dK ks) from I.hok a _ ea)
  obtain ⟨_, yb, vb, rb, db⟩ := (show ObjOk X.prog X.w H s.heap b (.dK ls) from I.hok b _ eb)
  refine PySem.W.keq_ne (knd := mixKind X.prog X.w) (r := kvAll ls ks) ya yb da db hu (fun _ => hits_gen rb ra fl) ⟨.bl _, H, I, rfl, ?_⟩
  have e : (va.length == vb.length) = decide (ks.length = ls.length) := by rw [← ra.length, ← rb.length]; rfl
  rw [e]
  exact q
end
end Nm

set_option Elab.async false
set_option linter.all false
set_option maxRecDepth 100000
set_option maxHeartbeats 4000000
namespace Nm
open PySem PySem.Spec PyProof.Rows L2
section
open Evl
variable {K : Fg} {σ : L2.St} {H H' : Hp} {ta tb tc td te ty tx tl tf : TE} {t u : TT} {a p : Addr}
/-- a comprehension over a new list of signs: texts -/
theorem el_lcg {l : List Nat} {j : Nat} {vs : List Nat} (g : Nat → Str) (h : EvL tl σ H (sgs l)) (hz : l.length ≤ 1000) (hw : ∀ x, wipe ((wipe σ vs).set j (some x)) vs = wipe σ vs)
    (he : ∀ (c : Nat) H1, Ex H H1 → c ∈ l → Ev te ((wipe σ vs).set j (some (.str (sgS c)))) H1 (.str (g c))) :
    EvL (tLc (iList K tl) (gName j) tYes te vs) σ H ((l.map g).map V.str) := fun H0 e Q q => h H0 e _ fun b H1 nb e1 hb => ⟨b, rfl, ⟨_, sq_of hb⟩, fun D hD =>
  lc_it (walk_list (xs := sgs l)) (fun i G => Ex H1 G ∧ G D = some (.lst (((l.take i).map g).map V.str))) ⟨Ex.new hD, upd_same⟩ (fun i G _ p => sq_of (p.1 _ _ hb)) (by
    rintro i x G1 G2 hi ⟨eG, hG⟩ ⟨rfl, hx⟩
    obtain ⟨c, hc, rfl⟩ : ∃ c, l[i]? = some c ∧ x = .str (sgS c) := by
      unfold sgs at hx
      rw [List.getElem?_map] at hx
      obtain ⟨c, hc, e⟩ := Option.map_eq_some_iff.mp hx
      exact ⟨c, hc, e.symm⟩
    have hm : c ∈ l := List.mem_of_getElem? hc
    have hi' : i < l.length := (List.getElem?_eq_some_iff.mp hc).1
    refine ⟨hw _, ?_⟩
    unfold tYes
    dsimp only
    rw [if_pos rfl]
    refine he c _ (e.trans e1) hm G2 eG _ fun G3 e3 => ⟨_, e3 D _ hG, by rw [List.length_map, List.length_map, List.length_take]; exact Evl.sz_lt (by omega), Ex.mut (eG.trans e3) hD, ?_⟩
    rw [upd_same, List.take_add_one, hc, List.map_append, List.map_append]
    rfl) (by
    rintro G ⟨eG, hG⟩
    rw [sgs_len, List.take_length] at hG
    exact q D G (fresh_back e1 hD) (e1.trans eG) hG)⟩
theorem ev_joinG {z : Str} {ys : List Str} (h1 : Ev ta σ H (.str z)) (h2 : EvL tb σ H (ys.map V.str)) (hl : (ys.map (·.length)).sum + ys.length * z.length ≤ 16777216) : Ev (tM1 (rJoin K) ta tb) σ H (.str (Txt.join z ys)) := fun H1 e Q q =>
  h1 H1 e _ fun H2 e2 => ⟨⟨_, rfl⟩, h2 H2 (e.trans e2) _ fun p H3 _ e3 hp => ⟨z, p, ys, rfl, rfl, .inl (sq_of hp), hl, q H3 (e2.trans e3)⟩⟩
theorem ev_fld {C dx : Addr} {fs : List (Str × V)} {f : Str} {v : V} (h : Ev tf σ H (.ref a)) (ha : H a = some (.ins C dx fs)) (c : Cls K C) (n : NoAttr K C f) (hl : fs.lookup f = some v) : Ev (tFld K tf f) σ H v := fun H1 e Q q =>
  h H1 e _ fun H2 e2 => ⟨a, C, dx, fs, v, rfl, (e.trans e2) _ _ ha, c, n, hl, q H2 e2⟩
end
theorem sgS_len (c : Nat) : (sgS c).length = 1 := rfl
theorem digs : ∀ n : Nat, n ≤ 8 → (Str.ofString (toString (n : Int))).length ≤ 2 := by decide +kernel
theorem itF_len {fs : Fds} {ms : Mks} (ro : RuleOk fs ms) : ∀ z ∈ (srt (fs.map Prod.fst)).map (fun c => sgS c ++ ("=" : Str) ++ stL ((lk fs c).getD [])), z.length ≤ 5 := fun z hz => by
  obtain ⟨c, hc, rfl⟩ := List.mem_map.mp hz
  obtain ⟨p, hp, rfl⟩ := List.mem_map.mp (srt_mem.mp hc)
  rw [lk_of_mem ro.fn hp, strLen_append, strLen_append, sgS_len]
  have h1 : (stL ((some p.2).getD [])).length ≤ 3 := by
    show (stL p.2).length ≤ 3
    rw [stL_len]
    exact (ro.fw p hp).1.le
  have h2 : ("=" : Str).length = 1 := by decide +kernel
  omega
theorem itM_len {fs : Fds} {ms : Mks} (ro : RuleOk fs ms) : ∀ z ∈ (srt (ms.map Prod.fst)).map (fun c => sgS c ++ (":" : Str) ++ Str.ofString (toString ((lk ms c).getD 0))), z.length ≤ 5 := fun z hz => by
  obtain ⟨c, hc, rfl⟩ := List.mem_map.mp hz
  obtain ⟨p, hp, rfl⟩ := List.mem_map.mp (srt_mem.mp hc)
  rw [lk_of_mem ro.mn hp, strLen_append, strLen_append, sgS_len]
  have h1 : (Str.ofString (toString ((some p.2).getD 0))).length ≤ 2 := by
    show (Str.ofString (toString p.2)).length ≤ 2
    rcases ro.mc p hp with e | e | e <;> rw [e] <;> decide +kernel
  have h2 : (":" : Str).length = 1 := by decide +kernel
  omega
theorem sum_le5 : ∀ {l : List Str}, (∀ z ∈ l, z.length ≤ 5) → (l.map (·.length)).sum ≤ 5 * l.length
  | [], _ => Nat.le_refl _
  | z :: r, h => by
    have h1 := h z (List.mem_cons_self ..)
    have h2 := sum_le5 (l := r) fun y hy => h y (List.mem_cons_of_mem _ hy)
    rw [List.map_cons, List.sum_cons, List.length_cons]
    omega
theorem emp_app (z : Str) : Str.empty ++ z = z := by
  refine Str.ext' (Array.toList_inj.mp ?_)
  show ((#[] : Array Nat) ++ z.cps).toList = z.cps.toList
  simp
section
open Evl
variable {K : Fg} {σ : L2.St} {H H' : Hp} {t1 t2 t3 t4 t5 ta tb te : TE} {p p2 : Addr}
theorem el_is {xs ys : List V} (h : EvL te σ H xs) (e : xs = ys) : EvL te σ H ys := e ▸ h
theorem ev_fmtS {y : Str} (h : Ev te σ H (.str y)) (hl : y.length ≤ 100000) : Ev (tFmt te) σ H (.str y) := fun H1 e Q q => h H1 e _ fun H2 e2 => .inl ⟨y, rfl, sz_of hl, q H2 e2⟩
theorem ev_fmtI {i : Int} (h : Ev te σ H (.int i)) (hl : i.natAbs.log2 < 1920) : Ev (tFmt te) σ H (.str (Str.ofString (toString i))) := fun H1 e Q q => h H1 e _ fun H2 e2 => .inr ⟨i, rfl, hl, q H2 e2⟩
theorem ev_fmt02 {n : Nat} (h : Ev te σ H (.int (n : Int))) (hl : n < 10) : Ev (tFmt02 te) σ H (.str (two n)) := fun H1 e Q q => h H1 e _ fun H2 e2 => ⟨n, rfl, hl, q H2 e2⟩
theorem ev_js3 {a b c : Str} (h1 : Ev t1 σ H (.str a)) (h2 : Ev t2 σ H (.str b)) (h3 : Ev t3 σ H (.str c)) (hl : a.length + b.length + c.length ≤ 100000) : Ev (fun σ H Q => tJs [t1, t2, t3] Str.empty σ H fun out H1 => Q (.str out) H1) σ H (.str (Str.empty ++ a ++ b ++ c)) := fun H1 e Q q =>
  h1 H1 e _ fun H2 e2 => ⟨a, rfl, by rw [emp_app]; exact sz_of (by omega), h2 H2 (e.trans e2) _ fun H3 e3 => ⟨b, rfl, by rw [emp_app, strLen_append]; exact sz_of (by omega), h3 H3 ((e.trans e2).trans e3) _ fun H4 e4 => ⟨c, rfl, by rw [emp_app, strLen_append, strLen_append]; exact sz_of (by omega), q H4 ((e2.trans e3).trans e4)⟩⟩⟩
theorem ev_js5 {a b c d f : Str} (h1 : Ev t1 σ H (.str a)) (h2 : Ev t2 σ H (.str b)) (h3 : Ev t3 σ H (.str c)) (h4 : Ev t4 σ H (.str d)) (h5 : Ev t5 σ H (.str f)) (hl : a.length + b.length + c.length + d.length + f.length ≤ 100000) :
    Ev (fun σ H Q => tJs [t1, t2, t3, t4, t5] Str.empty σ H fun out H1 => Q (.str out) H1) σ H (.str (Str.empty ++ a ++ b ++ c ++ d ++ f)) := fun H1 e Q q =>
  h1 H1 e _ fun H2 e2 => ⟨a, rfl, by rw [emp_app]; exact sz_of (by omega), h2 H2 (e.trans e2) _ fun H3 e3 => ⟨b, rfl, by rw [emp_app, strLen_append]; exact sz_of (by omega), h3 H3 ((e.trans e2).trans e3) _ fun H4 e4 => ⟨c, rfl, by rw [emp_app, strLen_append, strLen_append]; exact sz_of (by omega),
    h4 H4 (((e.trans e2).trans e3).trans e4) _ fun H5 e5 => ⟨d, rfl, by rw [emp_app, strLen_append, strLen_append, strLen_append]; exact sz_of (by omega), h5 H5 ((((e.trans e2).trans e3).trans e4).trans e5) _ fun H6 e6 => ⟨f, rfl, by rw [emp_app, strLen_append, strLen_append, strLen_append, strLen_append]; exact sz_of (by omega), q H6 ((((e2.trans e3).trans e4).trans e5).trans e6)⟩⟩⟩⟩⟩
theorem el_star2 {xs ys : List V} (h1 : Ev ta σ H (.ref p)) (h2 : Ev tb σ H (.ref p2)) (hp : H p = some (.lst xs)) (hp2 : H p2 = some (.lst ys)) (hl : xs.length + ys.length ≤ 100000) : EvL (tLstS (StX.tStar K ta (StX.tStar K tb tNil))) σ H (xs ++ ys) := fun H1 e Q q =>
  h1 H1 e _ fun H2 e2 => ⟨p, xs, rfl, .inr (sq_of ((e.trans e2) _ _ hp)), h2 H2 (e.trans e2) _ fun H3 e3 => ⟨p2, ys, rfl, .inr (sq_of (((e.trans e2).trans e3) _ _ hp2)), by rw [List.append_nil, List.length_append]; exact sz_of hl, fun l nl _ => by
    rw [List.append_nil]
    exact q l _ (fresh_back (e2.trans e3) nl) ((e2.trans e3).trans (Ex.new nl)) upd_same⟩⟩
theorem ev_deq {ks ls : List (Key × V)} (h1 : Ev ta σ H (.ref p)) (h2 : Ev tb σ H (.ref p2)) (hp : H p = some (.dK ks)) (hp2 : H p2 = some (.dK ls)) (fl : ∀ p ∈ ks, ∀ v, valV ls p.1 = some v → flatP p.2 v = true) : Ev (tOp rEqDG ta tb) σ H (.bl (decide (ks.length = ls.length) && kvAll ls ks)) :=
  ev_op h1 h2 fun H1 e Q q => ⟨p, p2, ks, ls, rfl, rfl, e _ _ hp, e _ _ hp2, fl, q H1 (Ex.refl _)⟩
theorem ev_dne {ks ls : List (Key × V)} (h1 : Ev ta σ H (.ref p)) (h2 : Ev tb σ H (.ref p2)) (hp : H p = some (.dK ks)) (hp2 : H p2 = some (.dK ls)) (fl : ∀ p ∈ ks, ∀ v, valV ls p.1 = some v → flatP p.2 v = true) : Ev (tOp rNeDG ta tb) σ H (.bl (!(decide (ks.length = ls.length) && kvAll ls ks))) :=
  ev_op h1 h2 fun H1 e Q q => ⟨p, p2, ks, ls, rfl, rfl, e _ _ hp, e _ _ hp2, fl, q H1 (Ex.refl _)⟩
theorem ev_lenD {kvs : List (Key × V)} (h : Ev ta σ H (.ref p)) (hp : H p = some (.dK kvs)) : Ev (tCB (fun xs H Q => ∃ a kvs, xs = [V.ref a] ∧ H a = some (.dK kvs) ∧ Q (.int kvs.length) H) (tCons ta tNil)) σ H (.int (kvs.length : Int)) := fun H1 e Q q =>
  h H1 e _ fun H2 e2 => ⟨p, kvs, rfl, (e.trans e2) _ _ hp, q H2 e2⟩
end
theorem flat_kF (fs gs : Fds) : ∀ p ∈ kF fs, ∀ v, valV (kF gs) p.1 = some v → flatP p.2 v = true := fun p hp v hv => by
  obtain ⟨q, _, rfl⟩ := List.mem_map.mp hp
  rw [valV_kF] at hv
  obtain ⟨w, _, rfl⟩ := Option.map_eq_some_iff.mp hv
  rfl
theorem flat_kM (fs gs : Mks) : ∀ p ∈ kM fs, ∀ v, valV (kM gs) p.1 = some v → flatP p.2 v = true := fun p hp v hv => by
  obtain ⟨q, _, rfl⟩ := List.mem_map.mp hp
  rw [valV_kM] at hv
  obtain ⟨w, _, rfl⟩ := Option.map_eq_some_iff.mp hv
  rfl
end Nm


set_option Elab.async false
set_option linter.all false
set_option maxRecDepth 100000
set_option maxHeartbeats 4000000
namespace Nm
open PySem PySem.Spec PyProof.Rows L2
/-! ### enumerate(text): each sign with its place, in a new pair -/
def Ites (z : Str) : It :=
  ⟨fun n _ => n < z.cps.size, fun n H v G => ∃ p c, v = .ref p ∧ H p = none ∧ G = upd H p (.tup [.int (n : Nat), .str ⟨#[c]⟩]) ∧ z.cps[n]? = some c, fun n _ => z.cps.size ≤ n⟩
theorem turn_enumS {P : Program} {w : World} {K : PySem.W.Frag} {es : List Expr} {kd : Nat} {ps : Pos} (q it : Addr) (z : Str) (u : Tok) (ty : String) (hty : ty = "str_ascii_iterator" ∨ ty = "str_iterator") :
    Turn P w K (.Tuple es kd ps) (Ites z) [q, it] q (fun n g => (∃ o, IsEnum g q it ((n : Nat) : Int) o) ∧ g.IsStrIter it ty z u n ∧ q ≠ it) where
  mem := by simp
  obj := fun n g st b mb => by
    obtain ⟨⟨old, eq⟩, ⟨o, go, _, gd⟩, _⟩ := st
    rcases (show b = q ∨ b = it by simpa using mb) with r | r
    · exact r ▸ ⟨_, eq, fun v y => nomatch y⟩
    · exact r ▸ ⟨o, go, fun v y => by rw [gd] at y; cases y⟩
  keep := fun n g g' st kp => by
    obtain ⟨⟨old, eq⟩, ⟨o, go, r⟩, ne⟩ := st
    exact ⟨⟨old, kp q (by simp) _ eq⟩, ⟨o, kp it (by simp) o go, r⟩, ne⟩
  item := by
    intro X hP hw hK hc n pn s σ H E I hf st lt
    subst hP hw hK
    obtain ⟨⟨old, eq⟩, hit, ne⟩ := st
    have D : Draws X.prog X.w X.A.in1 it [it] z.cps.size (fun i v => ∃ c t, z.cps[i]? = some c ∧ v = .str ⟨#[c]⟩ t) (fun i g => g.IsStrIter it ty z u i) := by
      rcases hty with r | r
      · rw [r]
        exact Draws.strAscii (show X.A.in1.handled = none from I.ok.hd hc) it z u
      · rw [r]
        exact Draws.strWide (show X.A.in1.handled = none from I.ok.hd hc) it z u
    have lq : q < s.heap.objs.size := Heap.lt_size eq
    have li : it < s.heap.objs.size := by
      obtain ⟨_, y, _⟩ := hit
      exact Heap.lt_size y
    refine wpAny_pyNext_enum_itemD D eq hit lt ne (by simpa using ne) fun x g1 tk hx out hit1 tup big kp => ?_
    obtain ⟨c, t, hcx, rfl⟩ := hx
    refine ⟨_, rfl, wpAny_letOwnedTupleGo_enum (s := { s with heap := g1, toks := tk + 1 }) out fun g2 eq2 sb => ?_⟩
    have tup2 : g2.get? s.heap.objs.size = some { cls := .type "tuple", data := .seq #[.int n tk, .str ⟨#[c]⟩ t] } := (sb.2 _ (Nat.ne_of_gt lq)).trans tup
    have nw : ObjOk X.prog X.w (upd H s.heap.objs.size (.tup [.int (n : Nat), .str ⟨#[c]⟩])) g2 s.heap.objs.size (.tup [.int (n : Nat), .str ⟨#[c]⟩]) :=
      ⟨by show 2 ≤ sizeLine; decide, [.int n tk, .str ⟨#[c]⟩ t], .cons ⟨_, rfl⟩ (.cons ⟨_, rfl⟩ .nil), ⟨_, tup2, rfl, _, rfl⟩⟩
    have I1 : Inv X pn σ (upd H s.heap.objs.size (.tup [.int (n : Nat), .str ⟨#[c]⟩])) { s with heap := g2, toks := tk + 1 } :=
      I.turnedNew (ch := [q, it]) (fun b o hb y => by
        have n1 : b ≠ q := fun r => hb (by simp [r])
        have n2 : b ≠ it := fun r => hb (by simp [r])
        exact (sb.2 b n1).trans (kp b o n1 n2 y)) hf (Nat.le_refl _) nw
    refine ⟨.ref s.heap.objs.size, _, I1, rfl, ⟨_, c, rfl, I.hok.fresh (Nat.le_refl _), rfl, hcx⟩, ⟨⟨_, by rw [Int.natCast_add]; exact eq2⟩, ?_, ne⟩, fun b hb => ?_⟩
    · obtain ⟨o, go, r⟩ := hit1
      exact ⟨o, (sb.2 it (Ne.symm ne)).trans go, r⟩
    · have lb : b < s.heap.objs.size := by
        rcases (show b = q ∨ b = it by simpa using hb) with r | r
        · exact r ▸ lq
        · exact r ▸ li
      rw [upd_ne (Nat.ne_of_lt lb)]
      exact (hf b hb).1
  done := by
    intro X hP hw hK hc n pn s σ H E I hf st ge
    subst hP hw hK
    obtain ⟨⟨old, eq⟩, hit, ne⟩ := st
    obtain ⟨f0, f1, f2, f3, f4, f5⟩ := hf it (by simp)
    have hx : z.cps[n]? = none := Array.getElem?_eq_none ge
    have hh : X.A.in1.handled = none := I.ok.hd hc
    have D : Draws X.prog X.w X.A.in1 it [it] n (fun _ _ => True) (fun i g => i = n ∧ g.IsStrIter it ty z u n) :=
      ⟨fun i g st => let ⟨_, o, ho, _⟩ := st; ⟨o, ho⟩, fun i g g' st kp => let ⟨e, o, ho, r⟩ := st; ⟨e, o, kp it (by simp) o ho, r⟩, fun i s Q E lt st hQ => absurd st.1 (Nat.ne_of_lt lt), fun s Q E st hE => by
        rcases hty with r | r
        · have st2 := st.2
          rw [r] at st2
          exact wpAny_nextOf_ascii_end hh st2 hx hE
        · have st2 := st.2
          rw [r] at st2
          exact wpAny_nextOf_wide_end hh st2 hx hE⟩
    exact wpAny_pyNext_enum_endD D eq ⟨rfl, hit⟩ fun g1 eb => ⟨rfl, I.turned (t' := s.toks) (fun b o hb y => eb b o hb y) f0 f1 f3 f4 f5⟩
  self := fun A n s Q E st h => by
    obtain ⟨⟨old, eq⟩, _⟩ := st
    exact wpAny_pyIter_enum eq h
def iEnumS (ta : TA) : TI := fun σ H R => ta σ H fun vs H1 => ∃ z, vs = [.str z] ∧ R (Ites z) H1
theorem pi_enumS {X : Cx} {e : Expr} {ta : TA} {p pos tpos : Pos} {es : List Expr} {kd : Nat} (hg : Gl X "enumerate") (hm : X.mg "enumerate" = none) (ha : PA X [e] ta) (hs : starEach [e] X.env = [(false, eval e X.env)] := by rfl) :
    PI X (.Tuple es kd tpos) (.Call (.Name "enumerate" p) [e] [] pos) (iEnumS ta) := by
  constructor
  intro pn s σ H R I h
  refine Call_ (ld_blt I hg hm boot_enumerate (PyProof.Rows.callWith_type1 (thn (ha.run pos pn s σ H _ I h) fun us s1 ⟨vs, H1, I1, r1, z, ex, q⟩ => ?_) hs rfl))
  subst ex
  cases r1 with
  | cons r rr =>
    cases rr
    obtain ⟨u, rfl⟩ := r
    refine call_enumerate_str fun g eq hit big kp => wpAny_pyIter_enum eq ?_
    have I2 : Inv X pn σ H1 { s1 with heap := g } := I1.kept (t' := s1.toks) kp
    have ty : strIterType z = "str_ascii_iterator" ∨ strIterType z = "str_iterator" := by
      unfold strIterType
      split
      · exact .inl rfl
      · exact .inr rfl
    refine ⟨s1.heap.objs.size + 1, [s1.heap.objs.size + 1, s1.heap.objs.size], _, _, H1, rfl, I2, turn_enumS (s1.heap.objs.size + 1) s1.heap.objs.size z u _ ty, ⟨⟨.none, eq⟩, hit, Nat.succ_ne_self _⟩, fun b hb => ?_, q⟩
    have le : s1.heap.objs.size ≤ b := by
      rcases (show b = s1.heap.objs.size + 1 ∨ b = s1.heap.objs.size by simpa using hb) with r | r
      · exact r ▸ Nat.le_add_right _ _
      · exact r ▸ Nat.le_refl _
    exact I1.fpOk le (I1.hok.fresh le)
theorem walk_enumS {z : Str} : Walk (Ites z) z.cps.size (fun _ => True) (fun i H x G => ∃ p c, x = .ref p ∧ H p = none ∧ G = upd H p (.tup [.int (i : Nat), .str ⟨#[c]⟩]) ∧ z.cps[i]? = some c) :=
  ⟨fun _ _ hi _ => hi, fun _ _ => Nat.le_refl _, fun _ _ _ _ _ _ y => y⟩
end Nm

set_option Elab.async false
set_option linter.all false
set_option maxRecDepth 100000
set_option maxHeartbeats 4000000
namespace Nm
open PySem PySem.Spec PyProof.Rows L2 Evl
/-! ### data that a def writes out: lists and tuples of texts and ints, all of it new -/
/-- the data at v lies in what is new between H and H' -/
def FD (H H' : Hp) (v : V) (d : PyData) : Prop := ∀ G : Hp, (∀ a o, H a = none → H' a = some o → G a = some o) → Dz G v d
def FDs (H H' : Hp) (vs : List V) (ds : List PyData) : Prop := ∀ G : Hp, (∀ a o, H a = none → H' a = some o → G a = some o) → DzAll G vs ds
theorem FD.dz {H H' : Hp} {v : V} {d : PyData} (h : FD H H' v d) : Dz H' v d := h H' fun _ _ _ e => e
theorem FD.to {H0 H H' H2 : Hp} {v : V} {d : PyData} (h : FD H H' v d) (e0 : Ex H0 H) (e2 : Ex H' H2) : FD H0 H2 v d := fun G g => h G fun a o n s => g a o (fresh_back e0 n) (e2 _ _ s)
theorem FDs.to {H0 H H' H2 : Hp} {v : List V} {d : List PyData} (h : FDs H H' v d) (e0 : Ex H0 H) (e2 : Ex H' H2) : FDs H0 H2 v d := fun G g => h G fun a o n s => g a o (fresh_back e0 n) (e2 _ _ s)
theorem DzAll.app {H : Hp} : ∀ {vs ws : List V} {ds es : List PyData}, DzAll H vs ds → DzAll H ws es → DzAll H (vs ++ ws) (ds ++ es)
  | _, _, _, _, .nil, h => h
  | _, _, _, _, .cons a b, h => .cons a (DzAll.app b h)
theorem DzAll.len {H : Hp} : ∀ {vs : List V} {ds : List PyData}, DzAll H vs ds → vs.length = ds.length
  | _, _, .nil => rfl
  | _, _, .cons _ t => by rw [List.length_cons, List.length_cons, DzAll.len t]
theorem DzAll.get {H : Hp} : ∀ {vs : List V} {ds : List PyData}, DzAll H vs ds → ∀ (i : Nat) (d : PyData), ds[i]? = some d → ∃ v, vs[i]? = some v ∧ Dz H v d
  | _, _, .cons (v := v) a t, 0, d, h => by cases h; exact ⟨v, rfl, a⟩
  | _, _, .cons a t, i + 1, d, h => DzAll.get t i d h
theorem DzAll.got {H : Hp} : ∀ {vs : List V} {ds : List PyData}, DzAll H vs ds → ∀ (i : Nat) (v : V), vs[i]? = some v → ∃ d, ds[i]? = some d ∧ Dz H v d
  | _, _, .cons (d := d) a t, 0, v, h => by cases h; exact ⟨d, rfl, a⟩
  | _, _, .cons a t, i + 1, v, h => DzAll.got t i v h
theorem Dz.str_inv {H : Hp} {v : V} {z : Str} (h : Dz H v (.str z)) : v = .str z := by cases h; rfl
theorem Dz.int_inv {H : Hp} {v : V} {z : Int} (h : Dz H v (.int z)) : v = .int z := by cases h; rfl
theorem Dz.tup_inv {H : Hp} {v : V} {ds : List PyData} (h : Dz H v (.tuple ds)) : ∃ a xs, v = .ref a ∧ H a = some (.tup xs) ∧ DzAll H xs ds := by
  cases h with
  | tup e h => exact ⟨_, _, rfl, e, h⟩
theorem Dz.lst_inv {H : Hp} {v : V} {ds : List PyData} (h : Dz H v (.list ds)) : ∃ a xs, v = .ref a ∧ H a = some (.lst xs) ∧ DzAll H xs ds := by
  cases h with
  | lst e h => exact ⟨_, _, rfl, e, h⟩
theorem DzAll.two {H : Hp} {vs : List V} {a b : PyData} (h : DzAll H vs [a, b]) : ∃ x y, vs = [x, y] ∧ Dz H x a ∧ Dz H y b := by
  cases h with
  | cons h1 t => cases t with
    | cons h2 t => cases t; exact ⟨_, _, rfl, h1, h2⟩
theorem DzAll.four {H : Hp} {vs : List V} {a b c d : PyData} (h : DzAll H vs [a, b, c, d]) : ∃ x y z w, vs = [x, y, z, w] ∧ Dz H x a ∧ Dz H y b ∧ Dz H z c ∧ Dz H w d := by
  cases h with
  | cons h1 t => cases t with
    | cons h2 t => cases t with
      | cons h3 t => cases t with
        | cons h4 t => cases t; exact ⟨_, _, _, _, rfl, h1, h2, h3, h4⟩
/-- a term whose value is the data d, all new -/
def EvD (te : TE) (σ : L2.St) (H : Hp) (d : PyData) : Prop := ∀ H1, Ex H H1 → ∀ Q : VK, (∀ v H2, Ex H1 H2 → FD H1 H2 v d → Q v H2) → te σ H1 Q
def EvDs (ta : TA) (σ : L2.St) (H : Hp) (ds : List PyData) : Prop := ∀ H1, Ex H H1 → ∀ Q : List V → Hp → Prop, (∀ vs H2, Ex H1 H2 → FDs H1 H2 vs ds → Q vs H2) → ta σ H1 Q
section
variable {K : Fg} {te ta' tb : TE} {ta : TA} {σ : L2.St} {H : Hp}
theorem evd_str {z : Str} (h : Ev te σ H (.str z)) : EvD te σ H (.str z) := fun H1 e Q q => h H1 e _ fun H2 e2 => q _ H2 e2 fun _ _ => .str z
theorem evd_int {i : Int} (h : Ev te σ H (.int i)) : EvD te σ H (.int i) := fun H1 e Q q => h H1 e _ fun H2 e2 => q _ H2 e2 fun _ _ => .int i
theorem eds_nil : EvDs tNil σ H [] := fun H1 _ _ q => q [] H1 (Ex.refl _) fun _ _ => .nil
theorem eds_cons {d : PyData} {ds : List PyData} (h : EvD te σ H d) (hr : EvDs ta σ H ds) : EvDs (tCons te ta) σ H (d :: ds) := fun H1 e Q q =>
  h H1 e _ fun v H2 e2 f1 => hr H2 (e.trans e2) _ fun vs H3 e3 f2 => q _ H3 (e2.trans e3) fun G g => .cons (f1.to (Ex.refl _) e3 G g) (f2.to e2 (Ex.refl _) G g)
theorem evd_new {H1 H2 : Hp} {p : Addr} {vs : List V} {ds : List PyData} {o : HO} (e2 : Ex H1 H2) (n : H2 p = none) (f : FDs H1 H2 vs ds) : ∀ G : Hp, (∀ a u, H1 a = none → upd H2 p o a = some u → G a = some u) → G p = some o ∧ DzAll G vs ds := fun G g =>
  ⟨g p o (fresh_back e2 n) upd_same, f G fun a u n1 s => g a u n1 ((upd_ne (ne_of_none s n)).trans s)⟩
theorem evd_tup {ds : List PyData} (h : EvDs ta σ H ds) (hl : ds.length ≤ 100000) : EvD (tTup ta) σ H (.tuple ds) := fun H1 e Q q =>
  h H1 e _ fun vs H2 e2 f => ⟨sz_of (by rw [DzAll.len (f H2 fun _ _ _ s => s)]; exact hl), fun p n => q (.ref p) _ (e2.trans (Ex.new n)) fun G g => let z := evd_new e2 n f G g; .tup z.1 z.2⟩
theorem evd_lst {ds : List PyData} (h : EvDs ta σ H ds) (hl : ds.length ≤ 100000) : EvD (tLstS ta) σ H (.list ds) := fun H1 e Q q =>
  h H1 e _ fun vs H2 e2 f => ⟨sz_of (by rw [DzAll.len (f H2 fun _ _ _ s => s)]; exact hl), fun p n _ => q (.ref p) _ (e2.trans (Ex.new n)) fun G g => let z := evd_new e2 n f G g; .lst z.1 z.2⟩
/-- a new list of data, to be changed later: the data lies outside of it -/
structure LD (H G : Hp) (p : Addr) (ds : List PyData) : Prop where
  fr : H p = none
  ex : Ex H G
  at' : ∃ vs, G p = some (.lst vs) ∧ ∀ G' : Hp, (∀ a o, a ≠ p → H a = none → G a = some o → G' a = some o) → DzAll G' vs ds
theorem LD.on {H G G' : Hp} {p : Addr} {ds : List PyData} (h : LD H G p ds) (e : Ex G G') : LD H G' p ds := by
  obtain ⟨vs, h1, h2⟩ := h.at'
  exact ⟨h.fr, h.ex.trans e, vs, e _ _ h1, fun G2 g => h2 G2 fun a o n0 n1 s => g a o n0 n1 (e _ _ s)⟩
theorem LD.fd {H G : Hp} {p : Addr} {ds : List PyData} (h : LD H G p ds) : FD H G (.ref p) (.list ds) := fun G' g => by
  obtain ⟨vs, h1, h2⟩ := h.at'
  exact .lst (g _ _ h.fr h1) (h2 G' fun a o _ n s => g a o n s)
theorem LD.of {H H1 H2 : Hp} {p : Addr} {ds : List PyData} {vs : List V} (e : Ex H H1) (e2 : Ex H1 H2) (n : H2 p = none) (f : FDs H1 H2 vs ds) : LD H (upd H2 p (.lst vs)) p ds :=
  ⟨fresh_back (e.trans e2) n, (e.trans e2).trans (Ex.new n), vs, upd_same, fun G' g => f G' fun a o n1 s => g a o (ne_of_none s n) (fresh_back e n1) ((upd_ne (ne_of_none s n)).trans s)⟩
variable {tz : TS} {D : Ends} {i : Nat} {ds : List PyData} {H0 : Hp} {p : Addr}
theorem q_asgLD (e0 : Ex H0 H) (h : EvDs ta σ H ds) (hl : ds.length ≤ 100000) (k : ∀ p G, H p = none → Ex H G → LD H0 G p ds → tz D (σ.set i (some (.ref p))) G) : tSeq (tAsg (tLstS ta) (gName i)) tz D σ H :=
  h H (Ex.refl H) _ fun vs H2 e2 f => ⟨sz_of (by rw [DzAll.len (f H2 fun _ _ _ s => s)]; exact hl), fun p n _ => k p _ (fresh_back e2 n) (e2.trans (Ex.new n)) (LD.of e0 e2 n f)⟩
theorem q_appD {d : PyData} (h : LD H0 H p ds) (ha : Ev ta' σ H (.ref p)) (he : EvD te σ H d) (hz : ds.length < 100000) (k : ∀ G, LD H0 G p (ds ++ [d]) → tz D σ G) : tSeq (tDrop (tBM K "list" rAppend ta' (tCons te tNil))) tz D σ H := by
  obtain ⟨vs, h1, h2⟩ := h.at'
  have len := DzAll.len (h2 H fun _ _ _ _ s => s)
  refine ha H (Ex.refl H) _ fun H1 e1 => ⟨Or.inl ⟨rfl, vs, sq_of (e1 p _ h1)⟩, he H1 e1 _ fun v H2 e2 f => ⟨p, vs, v, rfl, rfl, e2 p _ (e1 p _ h1), sz_lt (by omega), k _ ⟨h.fr, (h.ex.trans (e1.trans e2)).mut h.fr, vs ++ [v], upd_same, fun G' g => DzAll.app ?_ (.cons ?_ .nil)⟩⟩⟩
  · exact h2 G' fun a o n0 n1 s => g a o n0 n1 ((upd_ne n0).trans (e2 _ _ (e1 _ _ s)))
  · refine f G' fun a o n1 s => ?_
    have ne : a ≠ p := fun z => by rw [z, e1 p _ h1] at n1; cases n1
    exact g a o ne (fresh_back (h.ex.trans e1) n1) ((upd_ne ne).trans s)
/-- xs + [..]: the new list -/
theorem s_retCat {es : List PyData} (h : LD H0 H p ds) (ha : Ev ta' σ H (.ref p)) (hb : EvDs ta σ H es) (hz : ds.length + es.length ≤ 100000) (k : ∀ q G, H0 q = none → Ex H0 G → FD H0 G (.ref q) (.list (ds ++ es)) → D.rt (.ref q) G) : tRet (tOp rCat ta' (tLstS ta)) D σ H := by
  obtain ⟨vs, h1, h2⟩ := h.at'
  have len := DzAll.len (h2 H fun _ _ _ _ s => s)
  refine ha H (Ex.refl H) _ fun H1 e1 => hb H1 e1 _ fun ws H2 e2 f => ?_
  have len2 := DzAll.len (f H2 fun _ _ _ s => s)
  refine ⟨sz_of (by omega), fun p2 n2 _ => ⟨p, p2, vs, ws, rfl, rfl, (Ex.new n2) _ _ (e2 p _ (e1 p _ h1)), upd_same, sz_of (by omega), fun q nq => ?_⟩⟩
  have e12 := e1.trans e2
  have e3 : Ex H (upd H2 p2 (.lst ws)) := e12.trans (Ex.new n2)
  refine k q _ (fresh_back (h.ex.trans e3) nq) ((h.ex.trans e3).trans (Ex.new nq)) fun G g => .lst (g _ _ (fresh_back (h.ex.trans e3) nq) upd_same) (DzAll.app ?_ ?_)
  · exact h2 G fun a o n0 n1 s => g a o n1 ((Ex.new nq) _ _ (e3 _ _ s))
  · exact f G fun a o n1 s => g a o (fresh_back (h.ex.trans e1) n1) ((Ex.new nq) _ _ ((Ex.new n2) _ _ s))
theorem q_asgCat {es : List PyData} (h : LD H0 H p ds) (ha : Ev ta' σ H (.ref p)) (hb : EvDs ta σ H es) (hz : ds.length + es.length ≤ 100000) (k : ∀ q G, LD H0 G q (ds ++ es) → tz D (σ.set i (some (.ref q))) G) : tSeq (tAsg (tOp rCat ta' (tLstS ta)) (gName i)) tz D σ H := by
  obtain ⟨vs, h1, h2⟩ := h.at'
  have len := DzAll.len (h2 H fun _ _ _ _ s => s)
  refine ha H (Ex.refl H) _ fun H1 e1 => hb H1 e1 _ fun ws H2 e2 f => ?_
  have len2 := DzAll.len (f H2 fun _ _ _ s => s)
  refine ⟨sz_of (by omega), fun p2 n2 _ => ⟨p, p2, vs, ws, rfl, rfl, (Ex.new n2) _ _ (e2 p _ (e1 p _ h1)), upd_same, sz_of (by omega), fun q nq => ?_⟩⟩
  have e3 : Ex H (upd H2 p2 (.lst ws)) := (e1.trans e2).trans (Ex.new n2)
  refine k q _ ⟨fresh_back (h.ex.trans e3) nq, (h.ex.trans e3).trans (Ex.new nq), vs ++ ws, upd_same, fun G g => DzAll.app ?_ ?_⟩
  · exact h2 G fun a o n0 n1 s => g a o (ne_of_none (e3 _ _ s) nq) n1 ((Ex.new nq) _ _ (e3 _ _ s))
  · refine f G fun a o n1 s => ?_
    have s3 := (Ex.new (o := .lst ws) n2) _ _ s
    exact g a o (ne_of_none s3 nq) (fresh_back (h.ex.trans e1) n1) ((Ex.new nq) _ _ s3)
end
end Nm

set_option Elab.async false
set_option linter.all false
set_option maxRecDepth 100000
set_option maxHeartbeats 4000000
namespace Nm
open PySem PySem.Spec PyProof.Rows L2
/-! ### sets of texts: what stands at an address, one text more -/
def txOf : Value → Str
  | .str x _ => x
  | _ => Str.empty
def GoodT (P : Program) (w : World) (m : Int × Value) : Prop := ∃ x u, m.2 = .str x u ∧ m.1 = (strKind P w).hash x
/-- a set of texts: S its members, at most n of them; its table can be walked -/
def TSet (P : Program) (w : World) (g : Heap) (a : Addr) (S : Str → Bool) (n : Nat) : Prop :=
  ∃ ob ms ec tb, g.get? a = some ob ∧ ob.ExactSet ∧ ob.data = .set ms ec tb ∧ (∀ m ∈ ms.toList, GoodT P w m) ∧ (ms.toList.map fun m => txOf m.2).Nodup ∧ (∀ x, S x = true ↔ x ∈ ms.toList.map fun m => txOf m.2) ∧
    ms.size ≤ n ∧ tb.fits ms.size = true ∧ Ris tb.place.toList ∧ (w.params.followText "set-order" = true ∨ tb.led = true)
section
variable {P : Program} {w : World} {g g' : Heap} {a : Addr} {S S' : Str → Bool} {n : Nat}
theorem TSet.at (T : TSet P w g a S n) (k : ∀ ob, g.get? a = some ob → g'.get? a = some ob) : TSet P w g' a S n := by
  obtain ⟨ob, ms, ec, tb, go, r⟩ := T
  exact ⟨ob, ms, ec, tb, k ob go, r⟩
theorem TSet.congr (T : TSet P w g a S n) (e : ∀ x, S' x = S x) : TSet P w g a S' n := by
  rw [show S' = S from funext e]
  exact T
theorem goodT_els {l : List (Int × Value)} (gd : ∀ m ∈ l, GoodT P w m) : ElemsOf (strKind P w) l := fun m hm => by
  obtain ⟨x, u, e1, e2⟩ := gd m hm
  exact ⟨⟨x, by rw [e1]; exact strKind_is P w x u, e2⟩, by rw [e1]; rfl⟩
theorem goodT_is {m : Int × Value} (gd : GoodT P w m) (x : Str) : (strKind P w).is x m.2 = true ↔ txOf m.2 = x := by
  obtain ⟨y, u, e1, _⟩ := gd
  rw [e1]
  show ((y == x) = true) ↔ y = x
  exact beq_iff_eq
theorem goodT_mem {l : List (Int × Value)} (gd : ∀ m ∈ l, GoodT P w m) (x : Str) : (x ∈ l.map fun m => txOf m.2) ↔ ∃ m ∈ l, (strKind P w).is x m.2 = true := by
  rw [List.mem_map]
  exact ⟨fun ⟨m, hm, q⟩ => ⟨m, hm, (goodT_is (gd m hm) x).2 q⟩, fun ⟨m, hm, q⟩ => ⟨m, hm, (goodT_is (gd m hm) x).1 q⟩⟩
end
section
variable {P : Program} {w : World} {A : Around} {E : Value → Shared → Prop} {s : Shared} {a : Addr} {S : Str → Bool} {n : Nat}
theorem put_at {g : Heap} {ob : Obj} {ms ms' : Array (Int × Value)} {ec : Nat} {tb tb' : SetTable} (go : g.get? a = some ob) (gd : ob.data = .set ms ec tb) : (g.update a (Obj.putSet ms' tb')).get? a = some { ob with data := .set ms' (ec + 1) tb' } := by
  have z := Heap.get?_update_self (Obj.putSet ms' tb') go (by rw [putSet_of ms' tb' gd]; rfl)
  rwa [putSet_of ms' tb' gd] at z
/-- the end of an addition: the members laid, the table grown if it is too full -/
theorem tset_tail {gv : Bool → Sem Unit} (hgv : ∀ (b : Bool) (s1 : Shared) (Q' : Unit → Shared → Prop), Q' () s1 → wpAny (model P w) A (gv b) Q' E s1)
    {ob : Obj} {ms : Array (Int × Value)} {ec : Nat} {tb : SetTable} (go : s.heap.get? a = some ob) (gx : ob.ExactSet) (gd : ob.data = .set ms ec tb)
    {ms1 : Array (Int × Value)} {tb2 : SetTable} (g1 : ∀ m ∈ ms1.toList, GoodT P w m) (nd1 : (ms1.toList.map fun m => txOf m.2).Nodup) (mb1 : ∀ x, S x = true ↔ x ∈ ms1.toList.map fun m => txOf m.2)
    (le1 : ms1.size ≤ n) (room : n < scanBound) (ft2 : tb2.fits ms1.size = true) (rs2 : Ris tb2.place.toList) (ld2 : w.params.followText "set-order" = true ∨ tb2.led = true) {was : Bool} {R : Option Bool → Shared → Prop}
    (hR : ∀ g', Heap.SameBut a s.heap g' → TSet P w g' a S n → R (some true) { s with heap := g' }) :
    wpAny (model P w) A (do
        storeSet a ms1 tb2
        if (!was && tb2.tooFull) = true then do
            gv (relayAll tb2 ms1 (SetTable.grown ms1.size)).2.2
            storeSet a (relayAll tb2 ms1 (SetTable.grown ms1.size)).1 (relayAll tb2 ms1 (SetTable.grown ms1.size)).2.1
            pure (some true) else pure (some true)) R E s := by
  have bd1 : ms1.size < scanBound := Nat.lt_of_le_of_lt le1 room
  refine wpAny_bind (wpAny_storeSet_of go gd ?_ (fits_of_scanBound bd1))
  have go1 := put_at (ms' := ms1) (tb' := tb2) go gd
  have sb1 := Heap.SameBut.update s.heap a (Obj.putSet ms1 tb2)
  split
  · have p2 := relayAll_perm tb2 ms1 (SetTable.grown ms1.size)
    have f2 := relayAll_fits tb2 ms1 (SetTable.grown ms1.size)
    have r2 := relayAll_ris tb2 ms1 (SetTable.grown ms1.size)
    have l2 := relayAll_led tb2 ms1 (SetTable.grown ms1.size)
    generalize relayAll tb2 ms1 (SetTable.grown ms1.size) = Y at p2 f2 r2 l2 ⊢
    obtain ⟨ms2, tb3, gave⟩ := Y
    dsimp only at p2 f2 r2 l2 ⊢
    have z2 : ms2.size = ms1.size := by
      have := p2.length_eq
      rwa [Array.length_toList, Array.length_toList] at this
    refine wpAny_bind (hgv _ _ _ (wpAny_bind (wpAny_storeSet_of go1 rfl ?_ (fits_of_scanBound (by rw [z2]; exact bd1)))))
    have go2 := put_at (ms' := ms2) (tb' := tb3) go1 rfl
    refine wpAny_pure (hR _ (sb1.trans (Heap.SameBut.update _ a _)) ⟨_, ms2, _, tb3, go2, gx, rfl, fun m hm => g1 m (p2.mem_iff.mp hm), (p2.map _).nodup_iff.mpr nd1, fun x => (mb1 x).trans (p2.map _).mem_iff.symm, by rw [z2]; exact le1, f2, r2, ?_⟩)
    exact ld2.imp id fun z => by rw [l2]; exact z
  · exact wpAny_pure (hR _ sb1 ⟨_, ms1, _, tb2, go1, gx, rfl, g1, nd1, mb1, le1, ft2, rs2, ld2⟩)
theorem tset_hashed {x : Str} {u : Tok} {Q : Bool → Shared → Prop} (T : TSet P w s.heap a S n) (room : n + 1 < scanBound)
    (hQ : ∀ b g', Heap.SameBut a s.heap g' → TSet P w g' a (fun y => S y || decide (y = x)) (n + 1) → Q b { s with heap := g' }) :
    wpAny (model P w) A (setAddHashed a (.str x u) ((strKind P w).hash x)) Q E s := by
  obtain ⟨ob, ms, ec, tb, go, gx, gd, gt, nd, mb, le, ft, rs, ld⟩ := T
  have is1 : (strKind P w).is x (.str x u) = true := strKind_is P w x u
  have sc1 : (Value.str x u).scannable = true := rfl
  have el := goodT_els gt
  have bd : ms.size < scanBound := by omega
  unfold setAddHashed; unfold setAddHashedIn
  refine wpAny_holding (wpAny_bind (wpAny_setState_of go gd ft ?_))
  dsimp only
  rw [byScan_of sc1 bd el]
  simp only [↓reduceIte]
  unfold setAddByScan
  refine wpAny_bind (wpAny_bind (wpAny_rule ?_))
  refine wpAny_bind (wpAny_setScan_of is1 go gd ft el ?_)
  cases at1 : List.findIdx? (fun m => (strKind P w).is x m.2) ms.toList with
  | some j =>
    dsimp only
    obtain ⟨hj, pj, _⟩ := List.findIdx?_eq_some_iff_getElem.mp at1
    have yes : S x = true := (mb x).2 ((goodT_mem gt x).2 ⟨ms.toList[j], List.getElem_mem hj, pj⟩)
    refine wpAny_pure (wpAny_pure (hQ _ s.heap (Heap.SameBut.refl a s.heap) ⟨ob, ms, ec, tb, go, gx, gd, gt, nd, fun y => ?_, by omega, ft, rs, ld⟩))
    rw [Bool.or_eq_true, decide_eq_true_eq, ← mb y]
    exact ⟨fun z => z.elim id fun e => e ▸ yes, .inl⟩
  | none =>
    dsimp only
    have no : x ∉ ms.toList.map fun m => txOf m.2 := fun z => by
      obtain ⟨m, hm, q⟩ := (goodT_mem gt x).1 z
      have c := List.findIdx?_eq_none_iff.mp at1 m hm
      rw [q] at c
      cases c
    have gw : ∀ (b : Bool) {s1 : Shared} {Q' : Unit → Shared → Prop}, Q' () s1 → wpAny (model P w) A (match b with | true => rule "set.scan.the-table-gave-way" | false => pure ()) Q' E s1 := fun b _ _ q => by
      cases b
      · exact wpAny_pure q
      · exact wpAny_rule q
    have p1 := layNew_perm tb ms ((strKind P w).hash x) (.str x u)
    have f1 := layNew_fits tb ms ((strKind P w).hash x) (.str x u)
    have r1 := layNew_ris tb ms ((strKind P w).hash x) (.str x u) rs
    have l1 := layNew_led tb ms ((strKind P w).hash x) (.str x u)
    generalize layNew tb ms ((strKind P w).hash x) (.str x u) = Y at p1 f1 r1 l1 ⊢
    obtain ⟨ms1, tb1, was, gave⟩ := Y
    dsimp only at p1 f1 r1 l1 ⊢
    rw [Array.toList_push] at p1
    have pc : ms1.toList.Perm (((strKind P w).hash x, Value.str x u) :: ms.toList) := p1.trans (List.perm_append_singleton _ _)
    have pk : (ms1.toList.map fun m => txOf m.2).Perm (x :: ms.toList.map fun m => txOf m.2) := pc.map fun m => txOf m.2
    have gt1 : ∀ m ∈ ms1.toList, GoodT P w m := fun m hm => by
      rcases List.mem_cons.mp (pc.mem_iff.mp hm) with z | z
      · exact z ▸ ⟨x, u, rfl, rfl⟩
      · exact gt m z
    have nd1 := pk.nodup_iff.mpr (List.nodup_cons.mpr ⟨no, nd⟩)
    have mb1 : ∀ y, (S y || decide (y = x)) = true ↔ y ∈ ms1.toList.map fun m => txOf m.2 := fun y => by
      rw [Bool.or_eq_true, decide_eq_true_eq, mb y, pk.mem_iff, List.mem_cons]
      exact Or.comm
    have le1 : ms1.size ≤ n + 1 := by
      have := pc.length_eq
      rw [List.length_cons, Array.length_toList, Array.length_toList] at this
      omega
    have ld1 : w.params.followText "set-order" = true ∨ tb1.led = true := ld.imp id fun z => by rw [l1]; exact z
    refine wpAny_bind (gw _ ?_)
    split
    · refine wpAny_bind ?_
      rw [hashByValue_scannable 8 sc1]
      refine wpAny_pure ?_
      refine tset_tail (n := n + 1) ?_ go gx gd gt1 nd1 mb1 le1 room ?_ ?_ ?_ ?_
      · intro b s1 Q' q
        cases b
        · first | exact wpAny_pure q | exact wpAny_rule q
        · first | exact wpAny_rule q | exact wpAny_pure q
      · first | (split <;> first | exact f1 | exact SetTable.fits_plain_off f1) | exact f1
      · first | (split <;> exact r1) | exact r1
      · first | (split <;> exact ld1) | exact ld1
      · intro g' sb r
        dsimp only
        exact wpAny_pure (hQ _ g' sb r)
    · refine wpAny_bind (wpAny_pure ?_); simp only [↓reduceIte]
      refine tset_tail (n := n + 1) ?_ go gx gd gt1 nd1 mb1 le1 room f1 r1 ld1 ?_
      · intro b s1 Q' q
        cases b
        · first | exact wpAny_pure q | exact wpAny_rule q
        · first | exact wpAny_rule q | exact wpAny_pure q
      · intro g' sb r
        dsimp only
        exact wpAny_pure (hQ _ g' sb r)
end

/-! ### set(list of texts) -/
def eObj (w : World) : Obj := { cls := .type "set", dict := none, data := .set #[] 0 (.fresh 0 0 (!w.params.followText "set-order")) }
theorem tset_zero {P : Program} {w : World} {g : Heap} {a : Addr} {n : Nat} (go : g.get? a = some (eObj w)) : TSet P w g a (fun _ => false) n := by
  refine ⟨_, #[], 0, _, go, ⟨rfl, rfl, rfl⟩, rfl, fun m hm => by simp at hm, by simp, fun x => by simp, Nat.zero_le _, by rfl, List.Pairwise.nil, ?_⟩
  show _ ∨ Bool.not (w.params.followText "set-order") = true
  cases (w.params.followText "set-order")
  · exact .inr rfl
  · exact .inl rfl
section
variable {P : Program} {w : World} {A : Around} {R : Result → Shared → Prop} {I : Addr} {fp wr : List Addr} {G : Array GenState → Array GenState → Prop} {n : Nat} {Pv : Nat → Value → Prop} {St : Nat → Shared → Prop}
/-- all that an iterator of texts gives goes into a set -/
theorem tset_fill (W : WalksS P w A.in1 I fp wr G n Pv St) (b : Addr) (nfp : b ∉ fp) (xs : List Str) (len : xs.length = n) (room : n + 1 < scanBound) (val : ∀ i v, Pv i v → ∃ x u, xs[i]? = some x ∧ v = .str x u) :
    ∀ (k i : Nat) (s : Shared), n - i = k → i ≤ n → St i s → TSet P w s.heap b (fun x => decide (x ∈ xs.take i)) i →
      (∀ s2, Moved (b :: wr) G s s2 → TSet P w s2.heap b (fun x => decide (x ∈ xs)) n → R (.ok (.ret .none)) s2) → codeAny (model P w) A (.builtin "set.update.loop" ⟨[.ref b, .ref I], []⟩) R s := by
  have nwr : b ∉ wr := fun z => nfp (W.sub _ z)
  have up : ∀ c ∈ wr, c ∈ b :: wr := fun c hc => List.mem_cons_of_mem _ hc
  intro k
  induction k with
  | zero =>
    intro i s hk hi st T hR
    obtain rfl : i = n := by omega
    refine codeAny_builtin F.entry_set_update_loop ?_; rw [Around.under_plainId F.plain_set_update_loop _]
    show wpAny _ A.in1 (pyNext (.ref I) >>= _) _ _ s; refine wpAny_bind (W.done s _ _ st fun s2 mv => ?_)
    show wpAny _ A.in1 (ret Value.none) _ _ s2
    rw [List.take_of_length_le (Nat.le_of_eq len)] at T
    exact wpAny_pure (hR s2 (mv.mono up) (T.at fun o e => mv.heap b o nwr e))
  | succ k ih =>
    intro i s hk hi st T hR
    have lt : i < n := by omega
    refine codeAny_builtin F.entry_set_update_loop ?_; rw [Around.under_plainId F.plain_set_update_loop _]
    show wpAny _ A.in1 (pyNext (.ref I) >>= _) _ _ s; refine wpAny_bind (W.item i s _ _ lt st fun v s2 hv st2 mv => ?_)
    obtain ⟨x, u, hx, rfl⟩ := val i v hv
    have T2 : TSet P w s2.heap b (fun y => decide (y ∈ xs.take i)) i := T.at fun o e => mv.heap b o nwr e
    show wpAny _ A.in1 (holding [Value.str x u] (setAdd b (.str x u)) >>= _) _ _ s2
    refine wpAny_bind (wpAny_holding ?_); unfold setAdd; refine wpAny_holding ?_
    refine wpAny_bind ((strKind P w).pyHash (k := x) (strKind_is _ _ _ _) (tset_hashed (s := { s2 with toks := s2.toks + 1 }) T2 (by omega) fun bb g1 sb T3 => ?_))
    have T4 : TSet P w g1 b (fun y => decide (y ∈ xs.take (i + 1))) (i + 1) := T3.congr fun y => by
      rw [List.take_add_one, hx]
      simp [List.mem_append]
    refine wpAny_pure ⟨plainId_quiet F.plain_set_update_loop _, ih (i + 1) _ (by omega) lt (W.frame _ s2 _ _ st2 (Nat.le_succ _) fun c hc o e => ?_) T4 fun s3 mv3 T5 => ?_⟩
    · exact (sb.2 c fun z : c = b => nfp (z ▸ hc)).trans e
    · refine hR s3 (Moved.trans W.gtrans ((mv.mono up).then_heap (Nat.le_succ _) fun c o hc e => ?_) mv3) T5
      exact (sb.2 c fun z : c = b => hc (z ▸ List.mem_cons_self ..)).trans e
end
theorem strs_nth : ∀ {us : List Value} {xs : List Str}, StrsAre us xs → ∀ (i : Nat) (v : Value), us[i]? = some v → ∃ x u, xs[i]? = some x ∧ v = .str x u
  | _, _, .cons x u r, 0, v, e => by cases e; exact ⟨x, u, rfl, rfl⟩
  | _, _, .cons x u r, i + 1, v, e => strs_nth r i v e
section
variable {w : World} {P : Program} {A : Around} {s : Shared} {E : Value → Shared → Prop}
theorem tset_call {l : Addr} {items : Array Value} (xs : List Str) {Q : Value → Shared → Prop} (hh : A.handled = none) (hl : s.heap.IsList l items) (hx : StrsAre items.toList xs) (room : xs.length + 1 < scanBound)
    (fin : ∀ (g : Heap) (tk : Nat), TSet P w g s.heap.objs.size (fun x => decide (x ∈ xs)) xs.length → (∀ b o, s.heap.get? b = some o → g.get? b = some o) → Q (.ref s.heap.objs.size) { s with heap := g, toks := tk }) : wpAny (model P w) A (call (.type "set") [.ref l]) Q E s := by
  have many : items.size = xs.length := by
    have z := StrsAre.len_eq hx
    rwa [Array.length_toList] at z
  obtain ⟨c, tl, mr⟩ := F.called_set.mro
  have k1 := F.called_set.made
  have k2 := F.called_set.sub
  have k3 := F.called_set.notType
  have k4 := F.called_set.canCreate
  have k5 := F.typeCall_set_1 (.ref l)
  refine wpAny_call (codeAny_of_tree ?_); show wpAny _ _ (callAny (.type "set") _) _ _ _
  refine wpAny_pure ⟨Code.quiet_builtin _ (by decide +kernel), codeAny_builtin F.entry_type_call ?_⟩; rw [Around.under_plain (weight_type_call_type "set" [.ref l] []) rfl]
  repeat (any_goals (first | wp_step | assumption))
  refine codeAny_mono (code_set_led1 (.ref l) (E := E) (Q₁ := fun v s1 => v = .ref s.heap.objs.size ∧ s1 = { s with heap := s.heap.push (eObj w) }) ⟨rfl, rfl⟩) fun r s1 hr => ?_
  cases r with
  | error e => exact hr
  | ok fl =>
    cases fl with
    | ret v =>
      obtain ⟨rfl, rfl⟩ := hr
      have h0 : (s.heap.push (eObj w)).get? s.heap.objs.size = some (eObj w) := Heap.get?_push_size _ rfl
      have ty : Shared.TypeIs { s with heap := s.heap.push (eObj w) } (.ref s.heap.objs.size) "set" := ⟨_, h0, rfl⟩
      have i1 := F.called_set.init.lookup
      have i2 := F.called_set.init.bind (.ref s.heap.objs.size)
      repeat (any_goals (first | wp_step | assumption))
      refine codeAny_mono (codeAny_call_builtin (R := wants (fun r s2 => r = .none ∧ ∃ g tk, s2 = { s with heap := g, toks := tk } ∧ TSet P w g s.heap.objs.size (fun x => decide (x ∈ xs)) xs.length ∧ (∀ b o, s.heap.get? b = some o → g.get? b = some o)) E) F.called_set.init.plain F.entry_set_init (check_set_init_1 ty ?_)) fun r2 s2 hr2 => ?_
      · obtain ⟨ob, go, gc, ep, gd⟩ := hl
        obtain ⟨oc, od, ot, os⟩ := ob
        simp only at gc gd
        subst gc gd
        have go1 : (s.heap.push (eObj w)).get? l = some { cls := .type "list", dict := od, data := .seq items ep, slots := os } := Heap.get?_push_of_some _ go
        have j1 := F.sub_list_set
        have j2 := F.sub_list_frozenset
        have j3 : (Value.type "list" == Value.type "dict") = false := by decide
        have hl1 : (s.heap.push (eObj w)).IsList l items := ⟨_, go1, rfl, ep, rfl⟩
        unfold Builtin.«set.__init__»; unfold noKeywords Builtin.Frozenset.updateFrom
        generalize hit : pyIter = it
        wp_walk
        subst hit
        refine wpAny_pyIter_list hl1 (wpAny_bind (wpAny_runValue ?_))
        have l0 : l < s.heap.objs.size := Heap.lt_size go
        have hd3 : A.in1.in1.in1.handled = none := by simp [hh]
        have sz : (s.heap.push (eObj w)).objs.size = s.heap.objs.size + 1 := Heap.size_push ..
        have n1 : l ≠ (s.heap.push (eObj w)).objs.size := by rw [sz]; exact Nat.ne_of_lt (Nat.lt_succ_of_lt l0)
        have n2 : s.heap.objs.size ∉ [(s.heap.push (eObj w)).objs.size, l] := fun z => by
          rw [sz] at z
          rcases List.mem_cons.mp z with e | z
          · exact absurd e (Nat.ne_of_lt (Nat.lt_succ_self _))
          · exact absurd (List.mem_singleton.mp z) (Nat.ne_of_gt l0)
        refine tset_fill ((Walks.list hd3 _ l n1 items).toS) s.heap.objs.size n2 xs many.symm (by omega) (fun i v hv => strs_nth hx i v (by rw [Array.getElem?_toList]; exact hv)) (items.size - 0) 0 _ (by omega) (Nat.zero_le _) ⟨⟨_, Heap.get?_push_size _ rfl, rfl, rfl⟩, (hl1.push _)⟩ ?h0 ?h1
        case h0 => exact (tset_zero (Heap.get?_push_of_some _ h0)).congr fun x => by simp
        case h1 =>
          intro s3 mv T
          obtain ⟨g3, n3, d3, t3, o3⟩ := s3
          obtain rfl : n3 = s.gens := mv.gens
          obtain rfl : d3 = s.drawn := mv.drawn
          obtain rfl : o3 = s.os := mv.os
          show wpAny _ _ _ _ _ _; refine wpAny_pure ?_
          rw [many] at T
          show wpAny _ _ (ret Value.none) _ _ _; refine wpAny_pure ⟨rfl, g3, t3, rfl, T, fun b o e => ?_⟩
          have lb : b < s.heap.objs.size := Heap.lt_size e
          refine mv.heap b o (fun z => ?_) (Heap.get?_push_of_some _ (Heap.get?_push_of_some _ e))
          rcases List.mem_cons.mp z with r | z
          · exact absurd r (Nat.ne_of_lt lb)
          · rw [List.mem_singleton.mp z, sz] at lb
            exact absurd lb (Nat.not_lt.mpr (Nat.le_succ _))
      · cases r2 with
        | error e => exact hr2
        | ok f2 =>
          cases f2 with
          | ret r =>
            obtain ⟨rfl, g3, t3, rfl, T, kp⟩ := hr2
            repeat (any_goals (first | wp_step | assumption))
            exact fin _ _ T kp
          | _ => exact hr2.elim
    | _ => exact hr.elim
end

/-! ### sorted(set of texts), sorted(list of texts) of any length -/
theorem strs_are : ∀ (us : List Value), (∀ u ∈ us, ∃ x t, u = .str x t) → StrsAre us (us.map txOf)
  | [], _ => .nil
  | u :: r, h => by
    obtain ⟨x, t, rfl⟩ := h _ (List.mem_cons_self ..)
    exact .cons x t (strs_are r fun v hv => h v (List.mem_cons_of_mem _ hv))
section
variable {w : World} {P : Program} {A : Around} {s : Shared} {E : Value → Shared → Prop} {a : Addr} {S : Str → Bool} {n : Nat}
theorem tset_sorted {Q : Value → Shared → Prop} (T : TSet P w s.heap a S n) (hh : A.handled = none) (room : n < scanBound)
    (fin : ∀ s2 p (out : Array Value) (c : Nat) (ys : List Str), (∀ b o, s.heap.get? b = some o → s2.heap.get? b = some o) → s2.gens = s.gens → s2.os = s.os → s.heap.objs.size ≤ p → s2.heap.get? p = some (seqObj "list" out c) →
      StrsAre out.toList ys → ys.Nodup → (∀ x, x ∈ ys ↔ S x = true) → sortedS ys = true → ys.length ≤ n → Q (.ref p) s2) : wpAny (model P w) A (call (.builtin "sorted") [.ref a]) Q E s := by
  obtain ⟨ob, ms, ec, tb, go, gx, gd, gt, nd, mb, le, ft, rs, ld⟩ := T
  have bd : ms.size < scanBound := Nat.lt_of_le_of_lt le room
  refine Calls.call_function_entry kind_sorted plain_sorted entry_sorted (args_sorted1 _) ?_; unfold Builtin.«sorted»
  refine wpAny_bind (m := checkCount "sorted" 1 1 _) (wpAny_pure (wpAny_bind (collect_set (A := A.in1) hh ⟨ob, go, gx.1, gd⟩ ft bd rs ld fun s1 us k1 z1 g1 o1 pm => ?_)))
  have ul : us.length = ms.size := by rw [pm.length_eq, List.length_map, Array.length_toList]
  have sa : StrsAre us (us.map txOf) := strs_are us fun u hu => by
    obtain ⟨m, hm, rfl⟩ := List.mem_map.mp (pm.mem_iff.mp hu)
    obtain ⟨x, t, e, _⟩ := gt m hm
    exact ⟨x, t, e⟩
  have pk : (us.map txOf).Perm (ms.toList.map fun m => txOf m.2) := by
    have z := pm.map txOf
    rwa [List.map_map] at z
  have lu : us.length ≤ sizeLine := by
    have z : scanBound ≤ sizeLine := by rw [sizeLine_eq]; decide
    omega
  refine wpAny_bind (wpAny_newList ?_ lu)
  have oL : (s1.heap.push (seqObj "list" us.toArray 0)).get? s1.heap.objs.size = some (seqObj "list" us.toArray 0) := Heap.get?_push_size _ rfl
  refine wpAny_bind (wpAny_holding (wpAny_call_entry slot_list_sort ⟨_, oL, rfl⟩ entry_list_sort (list_sort_treeKAny strKind_oneLt oL sa.keysOf (fun v1 v2 r e => keyKind_strs (by rw [← e]; exact sa)) lu fun st a1 a2 => ⟨_, rfl, ?_⟩) (args_list_sort _)))
  obtain ⟨ys, y1, y2, y3⟩ := sorted_out_str sa a1 a2
  obtain ⟨c, hc⟩ := sortedHeap_at (vs := us) (out := (arrOf st).map (·.2)) oL
  have py := y2.trans pk
  refine wpAny_pure ⟨_, rfl, fin _ s1.heap.objs.size _ c ys (fun b u e => ?_) g1 o1 z1 hc y1 (py.nodup_iff.mpr nd) (fun x => by rw [py.mem_iff, ← mb x]) y3 ?_⟩
  · have q := k1 b u e
    have lt := Heap.lt_size q
    show (sortedHeap (s1.heap.push (seqObj "list" us.toArray 0)) s1.heap.objs.size us _).get? b = some u
    rw [sortedHeap_old (Nat.ne_of_lt lt) (by rw [size_push']; exact Nat.lt_succ_of_lt lt)]
    exact (Heap.get?_push_of_some _ q)
  · rw [py.length_eq, List.length_map, Array.length_toList]
    exact le
end
/-! ### .. as rules of the hand layer -/
/-- the set of texts at a -/
def SetX (P : Program) (w : World) (a : Addr) (S : Str → Bool) (n : Nat) : HO := .ext fun g => TSet P w g a S n
theorem setX_new {w : World} {P : Program} {H : Hp} {g : Heap} {a : Addr} {S : Str → Bool} {n : Nat} (T : TSet P w g a S n) : ObjOk P w H g a (SetX P w a S n) := by
  have ⟨ob, _, _, _, go, _⟩ := T
  exact ⟨T, ⟨ob, go⟩, fun g1 g2 q k => TSet.at q k⟩
section
variable {X : Cx}
theorem setX_get {pins : List (Addr × Obj)} {σ : L2.St} {H : Hp} {s : Shared} {a : Addr} {S : Str → Bool} {n : Nat} (I : Inv X pins σ H s) (ha : H a = some (SetX X.prog X.w a S n)) : TSet X.prog X.w s.heap a S n := (I.hok a _ ha).1
def rSetX (K : PySem.W.Frag) (P : Program) (w : World) : List V → Hp → VK → Prop := fun vs H Q => ∃ (l : Addr) (xs : List Str), vs = [.ref l] ∧ SqL K H l (xs.map V.str) ∧ xs.length ≤ 4000 ∧ ∀ p, H p = none → Q (.ref p) (upd H p (SetX P w p (fun x => decide (x ∈ xs)) xs.length))
theorem cr_setX (hc : X.calm = true) : CallR X (.type "set") (rSetX X.K X.prog X.w) := by
  rintro pins s σ H vs us Q I r ⟨l, xs, rfl, hl, hn, q⟩
  obtain ⟨is, rv, pl, _⟩ := I.list hl
  obtain ⟨_, rfl, rx⟩ := vals1 r
  cases rx
  refine tset_call xs (I.ok.hd hc) pl.isList (strsAre_of (by simpa using rv)) (by unfold scanBound; omega) fun g tk T kp => ?_
  exact ⟨.ref _, upd H s.heap.objs.size (SetX X.prog X.w s.heap.objs.size _ _), I.laid (t' := tk) kp (Nat.le_refl _) (setX_new T), rfl, q _ (I.hok.fresh (Nat.le_refl _))⟩
def rSortX (P : Program) (w : World) : List V → Hp → VK → Prop := fun vs H Q => ∃ (a : Addr) (S : Str → Bool) (n : Nat), vs = [.ref a] ∧ H a = some (SetX P w a S n) ∧ n ≤ 4000 ∧ ∀ (ys : List Str) (p : Addr), ys.Nodup → (∀ x, x ∈ ys ↔ S x = true) → sortedS ys = true → ys.length ≤ n → H p = none → Q (.ref p) (upd H p (.lst (ys.map V.str)))
theorem cr_sortX (hc : X.calm = true) : CallR X (.builtin "sorted") (rSortX X.prog X.w) := by
  rintro pins s σ H vs us Q I r ⟨a, S, n, rfl, ha, hn, q⟩
  have T := setX_get I ha
  rw [Vals.ref1 r]
  refine tset_sorted T (I.ok.hd hc) (by unfold scanBound; omega) fun s2 p out c ys k g o hp hg hi nd mb so ln => ?_
  have fr : H p = none := I.hok.fresh hp
  have sz : (ys.map V.str).length ≤ sizeLine := by rw [List.length_map, sizeLine_eq]; omega
  have J : Inv X pins σ (upd H p (.lst (ys.map V.str))) { s with heap := s2.heap, gens := s2.gens, drawn := s2.drawn, toks := s2.toks } :=
    I.call (ch := []) (Un.laid k hp fr) (I.hok.laid k hp ⟨sz, out.toList, c, vals_of_strs hi, hg⟩) (by rw [g]; exact I.bare) (fun _ z => nomatch z)
  have e : s2 = { s with heap := s2.heap, gens := s2.gens, drawn := s2.drawn, toks := s2.toks } := by
    cases s2
    cases s
    cases o
    rfl
  rw [e]
  exact ⟨.ref p, _, J, rfl, q ys p nd mb so ln fr⟩
end
end Nm

set_option Elab.async false
set_option linter.all false
set_option maxRecDepth 100000
set_option maxHeartbeats 4000000
namespace Nm
open PySem PySem.Spec PyProof.Rows L2
/-! ### sorted(list of texts), any length; what is sorted is one -/
section
variable {X : Cx}
def rSortA (K : PySem.W.Frag) : List V → Hp → VK → Prop := fun vs H Q => ∃ (l : Addr) (xs : List Str), vs = [.ref l] ∧ SqL K H l (xs.map V.str) ∧ xs.length ≤ 100000 ∧ ∀ (ys : List Str) (p : Addr), ys.Perm xs → sortedS ys = true → H p = none → Q (.ref p) (upd H p (.lst (ys.map V.str)))
theorem cr_sortA : CallR X (.builtin "sorted") (rSortA X.K) := by
  rintro pins s σ H vs us Q I r ⟨l, xs, rfl, hl, hn, q⟩
  obtain ⟨is, rv, pl, _⟩ := I.list hl
  obtain ⟨_, rfl, rx⟩ := vals1 r
  cases rx
  have sa : StrsAre is xs := strsAre_of rv
  have len : is.length = xs.length := StrsAre.len_eq sa
  refine sorted_strsAny pl.isList sa (Nat.le_trans (by omega : is.length ≤ 100000) (by decide)) fun out ys y1 y2 y3 => ?_
  obtain ⟨c, hc⟩ := sortedAll_at s.heap is out
  have fr : H (s.heap.objs.size + 1) = none := I.hok.fresh (Nat.le_succ _)
  have kp : ∀ b o, s.heap.get? b = some o → (sortedAll s.heap is out).get? b = some o := fun _ _ => sortedAll_old
  have sz : (ys.map V.str).length ≤ sizeLine := by
    rw [List.length_map, y2.length_eq]
    exact Nat.le_trans (by omega : xs.length ≤ 100000) (by decide)
  exact ⟨.ref _, upd H (s.heap.objs.size + 1) (.lst (ys.map V.str)), I.laid (t' := s.toks) kp (Nat.le_succ _) ⟨sz, out.toList, c, vals_of_strs y1, hc⟩, rfl, q ys _ y2 y3 fr⟩
end
/-- less, by the codes -/
def ltS (x y : Str) : Bool := ltCps x.cps.toList y.cps.toList
theorem ltCps_irr : ∀ l : List Nat, ltCps l l = false
  | [] => rfl
  | a :: r => by unfold ltCps; simp [ltCps_irr r]
theorem ltCps_tri : ∀ a b : List Nat, ltCps a b = false → ltCps b a = false → a = b
  | [], [], _, _ => rfl
  | [], b :: r, h, _ => by simp [ltCps] at h
  | a :: r, [], _, h => by simp [ltCps] at h
  | a :: r, b :: t, h1, h2 => by
    unfold ltCps at h1 h2
    by_cases e1 : a < b
    · simp [e1] at h1
    · by_cases e2 : b < a
      · simp [e2] at h2
      · have : a = b := by omega
        subst this
        simp at h1 h2
        rw [ltCps_tri r t h1 h2]
theorem ltCps_trans : ∀ a b c : List Nat, ltCps a b = true → ltCps b c = true → ltCps a c = true
  | [], [], _, h, _ => by simp [ltCps] at h
  | [], _ :: _, [], _, h => by simp [ltCps] at h
  | [], _ :: _, _ :: _, _, _ => rfl
  | _ :: _, [], _, h, _ => by simp [ltCps] at h
  | _ :: _, _ :: _, [], _, h => by simp [ltCps] at h
  | a :: r, b :: t, c :: v, h1, h2 => by
    unfold ltCps at h1 h2 ⊢
    rw [Bool.or_eq_true, Bool.and_eq_true, decide_eq_true_eq, beq_iff_eq] at h1 h2 ⊢
    rcases h1 with h1 | ⟨rfl, h1⟩
    · rcases h2 with h2 | ⟨rfl, _⟩
      · exact .inl (by omega)
      · exact .inl h1
    · rcases h2 with h2 | ⟨rfl, h2⟩
      · exact .inl h2
      · exact .inr ⟨rfl, ltCps_trans r t v h1 h2⟩
/-- not above: an order in which texts are sorted -/
def leS (x y : Str) : Prop := ltCps y.cps.toList x.cps.toList = false
theorem leS_trans {x y z : Str} (h1 : leS x y) (h2 : leS y z) : leS x z := by
  unfold leS at h1 h2 ⊢
  cases h : ltCps z.cps.toList x.cps.toList with
  | false => rfl
  | true =>
    cases hy : ltCps y.cps.toList z.cps.toList with
    | true => rw [ltCps_trans _ _ _ hy h] at h1; cases h1
    | false => rw [ltCps_tri _ _ hy h2] at h1; rw [h] at h1; cases h1
theorem leS_anti {x y : Str} (h1 : leS x y) (h2 : leS y x) : x = y := Str.ext' (Array.toList_inj.mp (ltCps_tri _ _ h2 h1))
theorem leS_refl (x : Str) : leS x x := ltCps_irr _
theorem rising_pw : ∀ {l : List Str} {p : Str}, risingS p l = true → (p :: l).Pairwise leS
  | [], p, _ => List.pairwise_singleton ..
  | x :: r, p, h => by
    have h : (!ltCps x.cps.toList p.cps.toList && risingS x r) = true := h
    rw [Bool.and_eq_true] at h
    have h1 : leS p x := by simpa [leS] using h.1
    have ih := rising_pw h.2
    refine List.pairwise_cons.mpr ⟨fun y hy => ?_, ih⟩
    rcases List.mem_cons.mp hy with e | m
    · exact e ▸ h1
    · exact leS_trans h1 ((List.pairwise_cons.mp ih).1 y m)
theorem sorted_pw {l : List Str} (h : sortedS l = true) : l.Pairwise leS := by
  cases l with
  | nil => exact List.Pairwise.nil
  | cons x r => exact rising_pw h
theorem pw_sorted : ∀ {l : List Str}, l.Pairwise leS → sortedS l = true
  | [], _ => rfl
  | [x], _ => rfl
  | x :: y :: r, h => by
    obtain ⟨h1, h2⟩ := List.pairwise_cons.mp h
    have h3 : leS x y := h1 y (List.mem_cons_self ..)
    show (!ltCps y.cps.toList x.cps.toList && risingS y r) = true
    have h4 : risingS y r = true := pw_sorted (l := y :: r) h2
    unfold leS at h3
    rw [h3, h4]
    rfl
theorem one_order {α : Type} {r : α → α → Prop} (anti : ∀ a b, r a b → r b a → a = b) : ∀ {l m : List α}, l.Perm m → l.Pairwise r → m.Pairwise r → l = m
  | [], m, h, _, _ => h.nil_eq
  | x :: l, [], h, _, _ => absurd h.length_eq (by simp)
  | x :: l, y :: m, h, h1, h2 => by
    obtain ⟨a1, a2⟩ := List.pairwise_cons.mp h1
    obtain ⟨b1, b2⟩ := List.pairwise_cons.mp h2
    have e : x = y := by
      rcases List.mem_cons.mp (h.mem_iff.mp (List.mem_cons_self ..)) with e | hx
      · exact e
      · rcases List.mem_cons.mp (h.mem_iff.mpr (List.mem_cons_self ..)) with e | hy
        · exact e.symm
        · exact anti _ _ (a1 y hy) (b1 x hx)
    subst e
    rw [one_order anti (List.Perm.cons_inv h) a2 b2]
theorem sorted_eq {l m : List Str} (p : l.Perm m) (h1 : sortedS l = true) (h2 : sortedS m = true) : l = m := one_order (fun _ _ => leS_anti) p (sorted_pw h1) (sorted_pw h2)
/-- distinct texts in order: told by what is among them -/
theorem sorted_set_eq {l m : List Str} (d1 : l.Nodup) (d2 : m.Nodup) (e : ∀ x, x ∈ l ↔ x ∈ m) (h1 : sortedS l = true) (h2 : sortedS m = true) : l = m := sorted_eq ((List.perm_ext_iff_of_nodup d1 d2).mpr e) h1 h2
end Nm

set_option Elab.async false
set_option linter.all false
set_option maxRecDepth 100000
set_option maxHeartbeats 4000000
namespace Nm
open PySem PySem.Spec PyProof.Rows L2
/-! ### text[::-1] -/
theorem back_ids (n : Nat) : Builtin.Str.strSliceIndices none none (-1) n = (List.range n).map fun k => n - 1 - k := by
  have h := PySem.W.krv_sliceRange n
  unfold Builtin.Str.strSliceIndices
  simpa using h
theorem back_text (z : Str) : ((Builtin.Str.strSliceIndices none none (-1) z.length).filterMap (z.cps[·]?)).toArray = z.cps.toList.reverse.toArray := by
  have h := PySem.W.krv_all z.cps
  rw [back_ids, PySem.W.krv_range, List.filterMap_reverse]
  rw [show z.length = z.cps.size from rfl, h]
def tRevS (te : TE) : TE := fun σ H Q => te σ H fun x H1 => ∃ z : Str, x = .str z ∧ z.length ≤ 100000 ∧ Q (.str (stL z.cps.toList.reverse)) H1
theorem pe_revS {X : Cx} {e : Expr} {te : TE} {k : Nat} {p1 p2 p3 pos : Pos} (he : PE X e te) : PE X (.Subscript e (.Slice none none (some (.UnaryOp .USub (.Constant (.int 1) k p1) p2)) p3) pos) (tRevS te) := by
  constructor
  intro pn s σ H Q I h
  refine Subscript_ (thn (he.run pn s σ H _ I h) fun v s1 ⟨x, H1, I1, r1, z, ex, hz, q⟩ => ?_)
  subst ex
  obtain ⟨t, rfl⟩ := r1
  have back : PO X (some (.UnaryOp .USub (.Constant (.int 1) k p1) p2)) (tPart (tUn (rU fun i => .int (-i)) (tC (.int 1)))) := po_some (pe_un un_neg pe_int)
  refine wpAny_Slice (thn (po_none.run pn s1 σ H1 (fun o G => o = none ∧ G = H1) I1 ⟨rfl, rfl⟩) fun va s2 ⟨o2, H2, I2, a2, b2, c2⟩ => ?_)
  subst b2 c2
  refine thn (po_none.run pn s2 σ H2 (fun o G => o = none ∧ G = H2) I2 ⟨rfl, rfl⟩) fun vb s3 ⟨o3, H3, I3, a3, b3, c3⟩ => ?_
  subst b3 c3
  refine thn (back.run pn s3 σ H3 (fun o G => o = some (-1) ∧ G = H3) I3 ⟨1, rfl, -1, rfl, rfl, rfl⟩) fun vc s4 ⟨o4, H4, I4, a4, b4, c4⟩ => ?_
  subst b4 c4
  have I5 : Inv X pn σ H4 { s4 with heap := s4.heap.push { cls := .type "slice", data := .fields #[va, vb, vc] } } := I4.kept (t' := s4.toks) fun b ob q => (Heap.get?_push_of_some _ q)
  obtain ⟨l, rfl, e1⟩ := IsPart.raw a2
  obtain ⟨u, rfl, e2⟩ := IsPart.raw a3
  obtain ⟨st, rfl, e3⟩ := IsPart.raw a4
  have n1 : l = none := by cases l <;> simp_all
  have n2 : u = none := by cases u <;> simp_all
  subst n1 n2
  show wpAny (model X.prog X.w) X.A (subscriptTail e (.Slice none none (some (.UnaryOp .USub (.Constant (.int 1) k p1) p2)) p3) (.str z t) (.ref s4.heap.objs.size)) (EP X pn σ Q) X.xe { s4 with heap := s4.heap.push { cls := .type "slice", data := .fields #[partValue none, partValue none, partValue st] } }
  refine tail_any (ops := [.ref s4.heap.objs.size, .str z t]) (typeIs_str _ _ _) F.slot_str_getitem.lookup ?_ (by with_unfolding_all rfl)
  have g : (st.map (·.1)).getD 1 = -1 := by rw [e3]; rfl
  refine wpAny_getItem_str_slice (l := none) (u := none) (st := st) ⟨_, Heap.get?_push_size _ rfl, rfl, rfl⟩ (by rw [g]; rfl) ?_
  unfold sliceMade slicePicked
  rw [g]
  rw [if_neg (by simp)]
  have len : (stL z.cps.toList.reverse).length ≤ sizeLine := by
    rw [stL_len, List.length_reverse]
    exact Nat.le_trans hz (by decide)
  have bt := back_text z
  show Made.post (Made.str ⟨((Builtin.Str.strSliceIndices none none (-1) z.length).filterMap (z.cps[·]?)).toArray⟩) _ _
  rw [bt]
  exact ⟨len, .str _, H4, I5.tok _, ⟨_, rfl⟩, q⟩
end Nm

set_option Elab.async false
set_option linter.all false
set_option maxRecDepth 100000
set_option maxHeartbeats 4000000
namespace Nm
open PySem PySem.Spec PyProof.Rows L2 Evl
def top (i : Nat) : Stmt := PySem.Challenge.pw_namesone_k08_whole_ways_and_papers.main.body.getD i (.Pass ⟨0, 0, 0, 0⟩)
structure Txt (K : Fg) (mg : Str → Option Value) : Prop where
  b_isinstance : mg "isinstance" = none
  b_str : mg "str" = none
  b_int : mg "int" = none
  b_bool : mg "bool" = none
  b_len : mg "len" = none
  b_all : mg "all" = none
  b_any : mg "any" = none
  b_abs : mg "abs" = none
  b_range : mg "range" = none
  b_max : mg "max" = none
  b_min : mg "min" = none
  b_list : mg "list" = none
  b_dict : mg "dict" = none
  b_sorted : mg "sorted" = none
  b_enumerate : mg "enumerate" = none
  b_set : mg "set" = none
  c_SIGNS : ∃ u, mg "SIGNS" = some u ∧ RelV (.str SIGNS) u
  c_LONGEST_WORD : ∃ u, mg "LONGEST_WORD" = some u ∧ RelV (.int 40) u
  c_LONGEST_FOLD : ∃ u, mg "LONGEST_FOLD" = some u ∧ RelV (.int 3) u
  c_MOST_FOLDS : ∃ u, mg "MOST_FOLDS" = some u ∧ RelV (.int 40) u
  c_MOST_MARKS : ∃ u, mg "MOST_MARKS" = some u ∧ RelV (.int 8) u
  c_ONE : ∃ u, mg "ONE" = some u ∧ RelV (.str "one") u
  c_TWO : ∃ u, mg "TWO" = some u ∧ RelV (.str "two") u
  b_tuple : mg "tuple" = none
  b_repr : mg "repr" = none
/-! ### drawing: _law_bag, _law_take -/
abbrev s__law_bag : Stmt := top 47
abbrev sc__law_bag_N : List Str := ["_law_script", "_law_at", "_law_cell", "_law_digits"]
theorem sc__law_bag : FnScope sc__law_bag_N ["_law_script", "_law_at"] (defScope s__law_bag) := ⟨rfl, rfl, rfl, by decide +kernel, rfl, by decide +kernel, by decide +kernel⟩
abbrev s__law_take : Stmt := top 48
abbrev sc__law_take_N : List Str := ["_law_bag_here", "_law_many", "_law_digit", "_law_mixed"]
theorem sc__law_take : FnScope sc__law_take_N ["_law_bag_here", "_law_many"] (defScope s__law_take) := ⟨rfl, rfl, rfl, by decide +kernel, rfl, by decide +kernel, by decide +kernel⟩
section
variable {P : Program} {w : World} {K : Fg} {mg : Str → Option Value} {base : Heap}
theorem ok__law_bag {f : Addr} {fd : FuncData} {k : Nat} (F : Fun K "_law_bag" "_law_bag" s__law_bag f fd) (T : Txt K mg) : FnOk P w K mg base CX0 (k + 1) f fd ["_law_script", "_law_at"] (spBag K) := by
  refine F.ok sc__law_bag (fun vs H Q E h => ?_) (fun cdv A outer s H vs Q E hr h => ?_)
  · obtain ⟨a, ns, i, rfl, _⟩ := h
    rfl
  · obtain ⟨a, ns, i, rfl, hS, hi, q⟩ := h
    refine ⟨_, (pss_cons (ps_set (i := 2) sc__law_bag.nd rfl (Or.inl rfl) (pe_ifExp (pt_cmpR op_lt (pv 1) (pe_callB call_len_seq (by rfl) T.b_len PySem.boot_len (pa_cons (pv 0) pa_nil)) (nomark _)) (pe_ix ix_list (pv 0) (pv 1) (fun _ _ => rfl)) pe_int))
      (pss_cons (ps_set (i := 3) sc__law_bag.nd rfl (Or.inl rfl) (pe_ifExp (pt_cmpR op_ge (pe_callB call_abs (by rfl) T.b_abs (by decide +kernel) (pa_cons (pv 2) pa_nil)) (pe_op op_pow pe_int pe_int) (nomark _)) (pe_callB call_abs (by rfl) T.b_abs (by decide +kernel) (pa_cons (pv 2) pa_nil)) pe_int))
      (pss_one (ps_ret (pe_lstS (pa_cons (pv 3) (pa_cons (pe_op op_mod (pe_op op_mul (pe_op op_add (pe_op op_add (pe_op op_mod (pv 2) pe_int) (pe_op op_mul pe_int (pv 1))) pe_int) pe_int) pe_int) (pa_cons pe_int pa_nil)))))))), ?_⟩
    have fin : ∀ (z d : Int), 0 ≤ d → tLstS (tCons (tC (.int d)) (tCons (tC (.int ((z % 2305843009213693951 + 6211 * (i : Int) + 17) * 92821993 % 2305843009213693951))) (tCons (tC (.int 0)) tNil))) [] H Q := fun z d hd =>
      ⟨(show 3 ≤ sizeLine by decide), fun p np _ => q p _ np ⟨d, _, 0, upd_same, hd, Int.emod_nonneg _ (by decide), Int.emod_lt_of_pos _ (by decide), by decide, by decide⟩ fun y o e => (upd_ne (ne_of_none e np)).trans e⟩
    refine ⟨_, rfl, _, rfl, a, _, rfl, .inl hS, _, _, rfl, rfl, _, rfl, ite2 (fun h1 => ?_) (fun h1 => ?_)⟩
    · have h2 : i < ns.length := by
        have q := of_decide_eq_true h1
        rw [List.length_map] at q
        omega
      refine ⟨_, rfl, _, rfl, a, _, _, _, rfl, rfl, hS, atI_nat (j := i) (v := .int ns[i]) (by rw [List.getElem?_map, List.getElem?_eq_getElem h2]; rfl), ?_⟩
      refine ⟨_, rfl, _, rfl, _, _, rfl, rfl, ⟨by decide, by decide, by decide⟩, _, _, rfl, rfl, _, rfl, ite2 (fun h3 => ?_) (fun h3 => ?_)⟩
      · refine ⟨_, rfl, _, rfl, _, rfl, _, rfl, _, _, rfl, rfl, pP, _, rfl, _, _, rfl, rfl, .inl ⟨by decide, by decide⟩, _, _, rfl, rfl, _, _, rfl, rfl, _, _, rfl, rfl, .inr ⟨by decide, by decide⟩, _, _, rfl, rfl, pP, ?_⟩
        refine fin ns[i] _ ?_
        split <;> omega
      · refine ⟨_, rfl, _, rfl, _, _, rfl, rfl, pP, _, rfl, _, _, rfl, rfl, .inl ⟨by decide, by decide⟩, _, _, rfl, rfl, _, _, rfl, rfl, _, _, rfl, rfl, .inr ⟨by decide, by decide⟩, _, _, rfl, rfl, pP, ?_⟩
        exact fin ns[i] 0 (by decide)
    · refine ⟨_, rfl, _, rfl, _, _, rfl, rfl, ⟨by decide, by decide, by decide⟩, _, _, rfl, rfl, _, rfl, ite2 (fun h3 => ?_) (fun h3 => ?_)⟩
      · refine ⟨_, rfl, _, rfl, _, rfl, _, rfl, _, _, rfl, rfl, pP, _, rfl, _, _, rfl, rfl, .inl ⟨by decide, by decide⟩, _, _, rfl, rfl, _, _, rfl, rfl, _, _, rfl, rfl, .inr ⟨by decide, by decide⟩, _, _, rfl, rfl, pP, ?_⟩
        refine fin 0 _ ?_
        decide
      · refine ⟨_, rfl, _, rfl, _, _, rfl, rfl, pP, _, rfl, _, _, rfl, rfl, .inl ⟨by decide, by decide⟩, _, _, rfl, rfl, _, _, rfl, rfl, _, _, rfl, rfl, .inr ⟨by decide, by decide⟩, _, _, rfl, rfl, pP, ?_⟩
        exact fin 0 0 (by decide)
theorem ok__law_take {f : Addr} {fd : FuncData} {k : Nat} (F : Fun K "_law_take" "_law_take" s__law_take f fd) : FnOk P w K mg base CX0 (k + 1) f fd ["_law_bag_here", "_law_many"] spTake := by
  refine F.ok sc__law_take (fun vs H Q E h => ?_) (fun cdv A outer s H vs Q E hr h => ?_)
  · obtain ⟨b, m, n, rfl, _⟩ := h
    rfl
  · obtain ⟨b, m, n, rfl, ⟨d, x, c, hB, hd, hx, hx2, hc, hcn⟩, hn, hm, hm2, q⟩ := h
    have hm3 : m < 1073741824 := by omega
    refine ⟨_, (pss_cons (ps_if (pt_cmpR op_gt (pe_ix ix_list (pv 0) pe_int (fun _ _ => rfl)) pe_int (nomark _)) (pss_cons (ps_set (i := 2) sc__law_take.nd rfl (Or.inl rfl) (pe_op op_mod (pe_ix ix_list (pv 0) pe_int (fun _ _ => rfl)) (pv 1)))
      (pss_cons (ps_asg (pe_op op_fdiv (pe_ix ix_list (pv 0) pe_int (fun _ _ => rfl)) (pv 1)) (pg_sub (pv 0) pe_int set_list))
      (pss_one (ps_ret (pv 2))))) pss_nil)
      (pss_cons (ps_asg (pe_op op_add (pe_ix ix_list (pv 0) pe_int (fun _ _ => rfl)) pe_int) (pg_sub (pv 0) pe_int set_list))
      (pss_cons (ps_set (i := 3) sc__law_take.nd rfl (Or.inl rfl) (pe_op op_mod (pe_op op_pow (pe_op op_add (pe_ix ix_list (pv 0) pe_int (fun _ _ => rfl)) (pe_op op_mul pe_int (pe_ix ix_list (pv 0) pe_int (fun _ _ => rfl)))) pe_int) pe_int))
      (pss_cons (ps_set (i := 3) sc__law_take.nd rfl (Or.inl rfl) (pe_op op_mod (pe_op op_pow (pe_op op_add (pv 3) (pe_op op_mul pe_int (pe_ix ix_list (pv 0) pe_int (fun _ _ => rfl)))) pe_int) pe_int))
      (pss_one (ps_ret (pe_op op_mod (pe_op op_fdiv (pv 3) pe_int) (pv 1)))))))), ?_⟩
    refine ⟨_, rfl, b, _, 0, _, rfl, rfl, SqL.of hB, rfl, _, _, rfl, rfl, _, rfl, ite2 (fun hd0 => ?_) (fun hd0 => ?_)⟩
    · refine ⟨_, rfl, b, _, 0, _, rfl, rfl, SqL.of hB, rfl, _, rfl, _, _, rfl, rfl, hm, ?_⟩
      refine ⟨_, rfl, b, _, 0, _, rfl, rfl, SqL.of hB, rfl, _, rfl, _, _, rfl, rfl, ⟨hm, hm3⟩, _, rfl, b, _, _, 0, rfl, rfl, hB, rfl, ?_⟩
      refine ⟨_, rfl, q _ _ (Int.emod_nonneg _ (by omega)) (Int.emod_lt_of_pos _ hm) ⟨d / m, x, c, upd_same, Int.ediv_nonneg hd (by omega), hx, hx2, hc, by omega⟩ fun p hp => upd_ne hp⟩
    · have hc1 : c + 1 ≤ 1000000001 := by omega
      have s1 : (x + 5000011 * (c + 1)).natAbs < 2 ^ 64 := by unfold PM at hx2; omega
      -- bag[2] = bag[2] + 1
      refine ⟨_, rfl, b, _, 2, _, rfl, rfl, SqL.of hB, rfl, _, _, rfl, rfl, _, rfl, b, _, _, 2, rfl, rfl, hB, rfl, ?_⟩
      have hB2 : upd H b (.lst [V.int d, .int x, .int (c + 1)]) b = some (.lst [.int d, .int x, .int (c + 1)]) := upd_same
      show ∃ _, _
      refine ⟨_, rfl, b, _, 1, _, rfl, rfl, SqL.of hB2, rfl, _, rfl, b, _, 2, _, rfl, rfl, SqL.of hB2, rfl, _, _, rfl, rfl, .inl ⟨by decide, by decide⟩, _, _, rfl, rfl, _, _, rfl, rfl, ⟨by decide, by decide, s1⟩, _, _, rfl, rfl, pP2, ?_⟩
      have m0 : ∀ y z : Int, 0 < z → 0 ≤ y % z ∧ y % z < z := fun y z hz => ⟨Int.emod_nonneg _ (by omega), Int.emod_lt_of_pos _ hz⟩
      have m1 := m0 ((x + 5000011 * (c + 1)) ^ (3 : Int).toNat) 2305843009213693921 (by decide)
      have s2 : ((x + 5000011 * (c + 1)) ^ (3 : Int).toNat % 2305843009213693921 + 71993051 * (c + 1)).natAbs < 2 ^ 64 := by
        generalize (x + 5000011 * (c + 1)) ^ (3 : Int).toNat % 2305843009213693921 = y at m1 ⊢
        omega
      refine ⟨_, rfl, _, rfl, b, _, 2, _, rfl, rfl, SqL.of hB2, rfl, _, _, rfl, rfl, .inl ⟨by decide, by decide⟩, _, _, rfl, rfl, _, _, rfl, rfl, ⟨by decide, by decide, s2⟩, _, _, rfl, rfl, pP, ?_⟩
      refine ⟨_, rfl, _, _, rfl, rfl, ⟨by decide, by decide⟩, _, rfl, _, _, rfl, rfl, hm, ?_⟩
      refine q _ _ (Int.emod_nonneg _ (by omega)) (Int.emod_lt_of_pos _ hm) ⟨d, x, c + 1, hB2, hd, hx, hx2, by omega, by omega⟩ fun p hp => upd_ne hp
end
abbrev s_is_sign : Stmt := top 25
abbrev sc_is_sign_N : List Str := ["thing"]
theorem sc_is_sign : FnScope sc_is_sign_N ["thing"] (defScope s_is_sign) := ⟨rfl, rfl, rfl, by decide +kernel, rfl, by decide +kernel, by decide +kernel⟩
abbrev s_is_word : Stmt := top 26
abbrev sc_is_word_N : List Str := ["thing"]
theorem sc_is_word : FnScope sc_is_word_N ["thing"] (defScope s_is_word) := ⟨rfl, rfl, rfl, by decide +kernel, rfl, by decide +kernel, by decide +kernel⟩
abbrev s__is_word_up_to : Stmt := top 27
abbrev sc__is_word_up_to_N : List Str := ["thing", "most", "sign"]
theorem sc__is_word_up_to : FnScope sc__is_word_up_to_N ["thing", "most"] (defScope s__is_word_up_to) := ⟨rfl, rfl, rfl, by decide +kernel, rfl, by decide +kernel, by decide +kernel⟩
abbrev s__is_fold_word : Stmt := top 28
abbrev sc__is_fold_word_N : List Str := ["thing"]
theorem sc__is_fold_word : FnScope sc__is_fold_word_N ["thing"] (defScope s__is_fold_word) := ⟨rfl, rfl, rfl, by decide +kernel, rfl, by decide +kernel, by decide +kernel⟩
section
variable {P : Program} {w : World} {K : Fg} {mg : Str → Option Value} {base : Heap}
theorem ok_is_sign {f : Addr} {fd : FuncData} {k : Nat} (F : Fun K "is_sign" "is_sign" s_is_sign f fd) (T : Txt K mg) : FnOk P w K mg base CX0 (k + 1) f fd ["thing"] spSg := by
  refine F.ok sc_is_sign (fun vs H Q E h => ?_) (fun cdv A outer s H vs Q E hr h => ?_)
  · obtain ⟨x, rfl, _⟩ := h
    rfl
  · obtain ⟨x, rfl, h⟩ := h
    refine ⟨_, (pss_one (ps_ret (pe_and (pe_callB call_isi (by rfl) T.b_isinstance (by decide +kernel) (pa_cons (pv 0) (pa_cons (pe_bltn (v := .ty "str") (by rfl) T.b_str (by decide +kernel) rfl) pa_nil))) (pe_and (pe_cmpR op_eq (pe_callB call_len_str (by rfl) T.b_len PySem.boot_len (pa_cons (pv 0) pa_nil)) pe_int (nomark _)) (pe_one (pe_cmpR op_in_sign (pv 0) (pe_gx (by rfl) T.c_SIGNS) (by rfl))))))), ?_⟩
    rcases h with ⟨z, rfl, hz, q⟩ | ⟨ho, q⟩
    · obtain ⟨t, ty, kt⟩ := str_ty (K := K) (H := H) z
      have hz2 : z.length ≤ sizeLine := Nat.le_trans hz (by decide)
      refine ⟨_, rfl, _, .ty "str", t, _, _, rfl, .ty "str", ty, kt, _, rfl, iteT ?_⟩
      refine ⟨_, rfl, _, rfl, hz2, rfl, _, rfl, ite2 (fun h1 => ?_) (fun h1 => ?_)⟩
      · have h2 : (z.length : Int) = 1 := V.int.inj (of_decide_eq_true h1)
        obtain ⟨c, rfl⟩ := one_sign (z := z) (by omega)
        refine ⟨_, rfl, c, _, rfl, rfl, ?_⟩
        have e : isSg ⟨#[c]⟩ = decide (c ∈ SIGNS.cps.toList) := by
          unfold isSg
          rw [decide_eq_true h2]
          simp [sgn]
        rw [e] at q
        exact q
      · have h2 : ¬ (z.length : Int) = 1 := fun e => h1 (decide_eq_true (by rw [e]))
        have e : isSg z = false := by
          unfold isSg
          rw [decide_eq_false h2]
          rfl
        rw [e] at q
        exact q
    · obtain ⟨t, ty, kt⟩ := ho.ty (K := K)
      exact ⟨_, rfl, _, .ty "str", t, _, _, rfl, .ty "str", ty, kt, _, rfl, iteF q⟩
theorem ok__is_word_up_to {f : Addr} {fd : FuncData} {k : Nat} (F : Fun K "_is_word_up_to" "_is_word_up_to" s__is_word_up_to f fd) (T : Txt K mg) : FnOk P w K mg base CX0 (k + 1) f fd ["thing", "most"] spUp := by
  refine F.ok sc__is_word_up_to (fun vs H Q E h => ?_) (fun cdv A outer s H vs Q E hr h => ?_)
  · obtain ⟨x, m, rfl, _⟩ := h
    rfl
  · obtain ⟨x, m, rfl, h⟩ := h
    refine ⟨_, (pss_cons (ps_if (PW.pt (pw_or (pt_not (pt_val (pe_callB call_isi (by rfl) T.b_isinstance (by decide +kernel) (pa_cons (pv 0) (pa_cons (pe_bltn (v := .ty "str") (by rfl) T.b_str (by decide +kernel) rfl) pa_nil))))) (pw_or1 (pt_not (pt_chain op_le op_le pe_int (pe_callB call_len_str (by rfl) T.b_len PySem.boot_len (pa_cons (pv 0) pa_nil)) (pv 1)))))) (pss_one (ps_ret pe_bl)) pss_nil)
      (pss_one (ps_ret (pe_callB (cr_all rfl) (by rfl) T.b_all (by decide +kernel) (pa_cons (pe_lc (own := [("sign", 2)]) (g := gName 2) (tt := tYes) rfl sc__is_word_up_to.nd (pi_str (pv 0)) (blkOk_by (own := [("sign", 2)]) (N := sc__is_word_up_to_N) (sc := defScope s__is_word_up_to) (by decide +kernel)) (fun _ _ _ _ _ => (pg_name (i := 2) sc__is_word_up_to.nd rfl (Or.inl rfl))) (fun _ _ _ _ _ => pts_nil) (fun _ _ _ _ _ => (pe_cmpR op_in_sign (pv 2) (pe_gx (by rfl) T.c_SIGNS) (by rfl)))) pa_nil))))), ?_⟩
    rcases h with ⟨z, rfl, hz, q⟩ | ⟨ho, q⟩
    · obtain ⟨t, ty, kt⟩ := str_ty (K := K) (H := H) z
      have hz2 : z.length ≤ sizeLine := Nat.le_trans hz (by decide)
      refine ⟨_, rfl, _, .ty "str", t, _, _, rfl, .ty "str", ty, kt, _, rfl, iteF ?_⟩
      refine ⟨_, rfl, _, rfl, hz2, _, _, rfl, rfl, _, rfl, ite2 (fun h1 => ?_) (fun h1 => ?_)⟩
      · have h1' := of_decide_eq_true h1
        refine ⟨_, rfl, _, _, rfl, rfl, _, rfl, ?_⟩
        by_cases h2 : (z.length : Int) ≤ m
        · rw [decide_eq_true h2]
          refine iteF ?_
          refine ⟨_, rfl, _, rfl, fun D nD => lc_str (z := z) (fun c => .bl (sgn c)) hz (fun c H' R hc h => ⟨_, rfl, c, _, rfl, rfl, h⟩) ?_⟩
          refine ⟨D, z.cps.toList.map sgn, rfl, SqL.of (by rw [upd_same, map_bl]), ?_⟩
          have q2 := q _ (same_new (o := .lst (z.cps.toList.map fun c => .bl (sgn c))) nD)
          unfold upTo at q2
          rw [decide_eq_true h1', decide_eq_true h2] at q2
          rw [all_id]
          exact q2
        · rw [decide_eq_false h2]
          refine iteT ?_
          have q2 := q _ (Same.refl _)
          rw [show upTo z m = false by unfold upTo; rw [decide_eq_false h2]; simp] at q2
          exact q2
      · refine ⟨_, rfl, iteT ?_⟩
        have q2 := q _ (Same.refl _)
        rw [show upTo z m = false by unfold upTo; rw [decide_eq_false (show ¬ (1 : Int) ≤ (z.length : Int) from fun e => h1 (decide_eq_true e))]; simp] at q2
        exact q2
    · obtain ⟨t, ty, kt⟩ := ho.ty (K := K)
      exact ⟨_, rfl, _, .ty "str", t, _, _, rfl, .ty "str", ty, kt, _, rfl, iteT q⟩
theorem ok_is_word {f fu : Addr} {fd fdu : FuncData} {k : Nat} (F : Fun K "is_word" "is_word" s_is_word f fd) (T : Txt K mg) (C__is_word_up_to : Cal P w K mg base CX0 k "_is_word_up_to" ["thing", "most"] spUp fu fdu) : FnOk P w K mg base CX0 (k + 1) f fd ["thing"] (spUpTo 40) := by
  refine F.ok sc_is_word (fun vs H Q E h => ?_) (fun cdv A outer s H vs Q E hr h => ?_)
  · obtain ⟨x, rfl, h⟩ := h
    rfl
  · obtain ⟨x, rfl, h⟩ := h
    refine ⟨_, (pss_one (ps_ret (pe_call C__is_word_up_to.ok hr (by rfl) C__is_word_up_to.mg C__is_word_up_to.kp C__is_word_up_to.b .nil pass0 (pa_cons (pv 0) (pa_cons (pe_gx (by rfl) T.c_LONGEST_WORD) pa_nil))))), ?_⟩
    exact ⟨_, rfl, x, 40, rfl, h⟩
theorem ok__is_fold_word {f fu : Addr} {fd fdu : FuncData} {k : Nat} (F : Fun K "_is_fold_word" "_is_fold_word" s__is_fold_word f fd) (T : Txt K mg) (C__is_word_up_to : Cal P w K mg base CX0 k "_is_word_up_to" ["thing", "most"] spUp fu fdu) : FnOk P w K mg base CX0 (k + 1) f fd ["thing"] (spUpTo 3) := by
  refine F.ok sc__is_fold_word (fun vs H Q E h => ?_) (fun cdv A outer s H vs Q E hr h => ?_)
  · obtain ⟨x, rfl, h⟩ := h
    rfl
  · obtain ⟨x, rfl, h⟩ := h
    refine ⟨_, (pss_one (ps_ret (pe_call C__is_word_up_to.ok hr (by rfl) C__is_word_up_to.mg C__is_word_up_to.kp C__is_word_up_to.b .nil pass0 (pa_cons (pv 0) (pa_cons (pe_gx (by rfl) T.c_LONGEST_FOLD) pa_nil))))), ?_⟩
    exact ⟨_, rfl, x, 3, rfl, h⟩
end
/-! ### the class Table, its facts -/
structure TabA where
  C : Addr
  CW : Addr
  MC : Addr
  pf : Addr
  gf : Addr
  pm : Addr
  gm : Addr
  gc : Addr
  fi : Addr
  fw : Addr
structure TabT (K : Fg) (mg : Str → Option Value) (A : TabA) : Prop where
  cl : Cls K A.C
  nF : NoAttr K A.C "_folds"
  nM : NoAttr K A.C "_marks"
  mgC : mg "Table" = some (.ref A.C)
  p_folds : PropOf K A.C "folds" A.pf A.gf
  p_marks : PropOf K A.C "marks" A.pm A.gm
  co : StX.CallO K A.C A.gc
  mkT : Mk K A.C A.fi
  ow : OexC K A.CW
  nW : PySem.W.findIn K (.ref A.CW) "word" = some none
  mgW : mg "NoWord" = some (.ref A.CW)
  iW : PySem.W.findIn K (.ref A.CW) "__init__" = some (some (.ref A.fw))
  tW : PySem.W.typeIn K (.ref A.fw) = some (.type "function")
  xf : XfC K A.CW
  ex : ExK K A.CW
  te : PySem.W.exmOne K (.ref A.CW) (.ref A.CW) = some true
  mMC : mg "MARK_CLASSES" = some (.ref A.MC)
  kMC : ∃ (dd : Option Addr) (t1 t2 t3 : Tok) (n : Nat) (sl : Array (Option Value)), K.lookup A.MC = some ⟨.type "tuple", dd, .seq ([.int 1 t1, .int 2 t2, .int 3 t3] : List Value).toArray n, sl⟩
theorem TabT.sq {K : Fg} {mg : Str → Option Value} {A : TabA} (T : TabT K mg A) (H : Hp) : SqT K H A.MC CLS := by
  obtain ⟨dd, t1, t2, t3, n, sl, e⟩ := T.kMC
  exact .inr ⟨_, _, n, e, rfl, rfl, (by show 3 ≤ sizeLine; decide), .cons ⟨t1, rfl⟩ (.cons ⟨t2, rfl⟩ (.cons ⟨t3, rfl⟩ .nil))⟩
theorem TabT.gx {K : Fg} {mg : Str → Option Value} {A : TabA} (T : TabT K mg A) : ∃ u, mg "MARK_CLASSES" = some u ∧ RelV (.ref A.MC) u := ⟨_, T.mMC, rfl⟩
/-- a method: its promise, how it is bound -/
structure CalM (P : Program) (w : World) (K : Fg) (mg : Str → Option Value) (base : Heap) (CX : CXT) (k : Nat) (ps : List Str) (sp : Sp) (f : Addr) (fd : FuncData) : Prop where
  ok : FnOk P w K mg base CX k f fd ps sp
  b : Binds K fd ps []
theorem CalM.up {P : Program} {w : World} {K : Fg} {mg : Str → Option Value} {base : Heap} {CX : CXT} {j k : Nat} {ps : List Str} {sp : Sp} {f : Addr} {fd : FuncData} (C : CalM P w K mg base CX j ps sp f fd) (h : j ≤ k) : CalM P w K mg base CX k ps sp f fd := ⟨C.ok.mono h, C.b⟩
theorem CalM.r {P : Program} {w : World} {K : Fg} {mg : Str → Option Value} {base : Heap} {CX : CXT} {k : Nat} {ps : List Str} {sp : Sp} {f : Addr} {fd : FuncData} (C : CalM P w K mg base CX k ps sp f fd) : FnR P w K mg base CX k f sp :=
  (C.ok.raw C.b .nil).imp fun vs H Q E h => by rw [List.append_nil]; exact h
abbrev s_is_number : Stmt := top 29
abbrev sc_is_number_N : List Str := ["thing"]
theorem sc_is_number : FnScope sc_is_number_N ["thing"] (defScope s_is_number) := ⟨rfl, rfl, rfl, by decide +kernel, rfl, by decide +kernel, by decide +kernel⟩
abbrev s__is_mark_class : Stmt := top 30
abbrev sc__is_mark_class_N : List Str := ["thing"]
theorem sc__is_mark_class : FnScope sc__is_mark_class_N ["thing"] (defScope s__is_mark_class) := ⟨rfl, rfl, rfl, by decide +kernel, rfl, by decide +kernel, by decide +kernel⟩
abbrev s__check_folds : Stmt := top 31
abbrev sc__check_folds_N : List Str := ["folds", "key", "sign"]
theorem sc__check_folds : FnScope sc__check_folds_N ["folds"] (defScope s__check_folds) := ⟨rfl, rfl, rfl, by decide +kernel, rfl, by decide +kernel, by decide +kernel⟩
abbrev s__check_marks : Stmt := top 32
abbrev sc__check_marks_N : List Str := ["marks", "folds", "key"]
theorem sc__check_marks : FnScope sc__check_marks_N ["marks", "folds"] (defScope s__check_marks) := ⟨rfl, rfl, rfl, by decide +kernel, rfl, by decide +kernel, by decide +kernel⟩
abbrev s__check_sizes : Stmt := top 33
abbrev sc__check_sizes_N : List Str := ["folds", "marks"]
theorem sc__check_sizes : FnScope sc__check_sizes_N ["folds", "marks"] (defScope s__check_sizes) := ⟨rfl, rfl, rfl, by decide +kernel, rfl, by decide +kernel, by decide +kernel⟩
abbrev s__with_folds : Stmt := top 34
abbrev sc__with_folds_N : List Str := ["folds", "text", "sign"]
theorem sc__with_folds : FnScope sc__with_folds_N ["folds", "text"] (defScope s__with_folds) := ⟨rfl, rfl, rfl, by decide +kernel, rfl, by decide +kernel, by decide +kernel⟩
abbrev s__with_marks_in_order : Stmt := top 35
abbrev sc__with_marks_in_order_N : List Str := ["marks", "text", "sign", "done", "run"]
theorem sc__with_marks_in_order : FnScope sc__with_marks_in_order_N ["marks", "text"] (defScope s__with_marks_in_order) := ⟨rfl, rfl, rfl, by decide +kernel, rfl, by decide +kernel, by decide +kernel⟩
abbrev s__run_in_order : Stmt := top 36
abbrev sc__run_in_order_N : List Str := ["marks", "run", "level", "mark"]
theorem sc__run_in_order : FnScope sc__run_in_order_N ["marks", "run"] (defScope s__run_in_order) := ⟨rfl, rfl, rfl, by decide +kernel, rfl, by decide +kernel, by decide +kernel⟩
abbrev s_key_of : Stmt := top 37
abbrev sc_key_of_N : List Str := ["table", "word"]
theorem sc_key_of : FnScope sc_key_of_N ["table", "word"] (defScope s_key_of) := ⟨rfl, rfl, rfl, by decide +kernel, rfl, by decide +kernel, by decide +kernel⟩
abbrev s_Table___init__ : Stmt := inClass (top 38) 0
abbrev sc_Table___init___N : List Str := ["self", "folds", "marks"]
theorem sc_Table___init__ : FnScope sc_Table___init___N ["self", "folds", "marks"] (defScope s_Table___init__) := ⟨rfl, rfl, rfl, by decide +kernel, rfl, by decide +kernel, by decide +kernel⟩
abbrev s_Table_folds : Stmt := inClass (top 38) 2
abbrev sc_Table_folds_N : List Str := ["self"]
theorem sc_Table_folds : FnScope sc_Table_folds_N ["self"] (defScope s_Table_folds) := ⟨rfl, rfl, rfl, by decide +kernel, rfl, by decide +kernel, by decide +kernel⟩
abbrev s_Table_marks : Stmt := inClass (top 38) 3
abbrev sc_Table_marks_N : List Str := ["self"]
theorem sc_Table_marks : FnScope sc_Table_marks_N ["self"] (defScope s_Table_marks) := ⟨rfl, rfl, rfl, by decide +kernel, rfl, by decide +kernel, by decide +kernel⟩
abbrev s_Table___call__ : Stmt := inClass (top 38) 4
abbrev sc_Table___call___N : List Str := ["self", "word"]
theorem sc_Table___call__ : FnScope sc_Table___call___N ["self", "word"] (defScope s_Table___call__) := ⟨rfl, rfl, rfl, by decide +kernel, rfl, by decide +kernel, by decide +kernel⟩
abbrev s_NoWord___init__ : Stmt := inClass (top 16) 0
abbrev sc_NoWord___init___N : List Str := ["self", "word"]
theorem sc_NoWord___init__ : FnScope sc_NoWord___init___N ["self", "word"] (defScope s_NoWord___init__) := ⟨rfl, rfl, rfl, by decide +kernel, rfl, by decide +kernel, by decide +kernel⟩
section
variable {P : Program} {w : World} {K : Fg} {mg : Str → Option Value} {base : Heap} {A : TabA}
theorem ok_is_number {f : Addr} {fd : FuncData} {k : Nat} (F : Fun K "is_number" "is_number" s_is_number f fd) (T : Txt K mg) : FnOk P w K mg base CX0 (k + 1) f fd ["thing"] spNum := by
  refine F.ok sc_is_number (fun vs H Q E h => ?_) (fun cdv A outer s H vs Q E hr h => ?_)
  · obtain ⟨x, rfl, _⟩ := h
    rfl
  · obtain ⟨x, rfl, hx, q⟩ := h
    refine ⟨_, (pss_one (ps_ret (pe_and (pe_callB call_isi (by rfl) T.b_isinstance (by decide +kernel) (pa_cons (pv 0) (pa_cons (pe_bltn (v := .ty "int") (by rfl) T.b_int (by decide +kernel) rfl) pa_nil))) (pe_one (pe_not (pe_callB call_isi (by rfl) T.b_isinstance (by decide +kernel) (pa_cons (pv 0) (pa_cons (pe_bltn (v := .ty "bool") (by rfl) T.b_bool (by decide +kernel) rfl) pa_nil)))))))), ?_⟩
    obtain ⟨t, b1, b2, ty, k1, k2, e⟩ := hx.ty (K := K)
    refine ⟨_, rfl, _, .ty "int", t, _, b1, rfl, .ty "int", ty, k1, b1, rfl, ?_⟩
    rw [e] at q
    cases b1 with
    | true => exact iteT ⟨_, rfl, _, .ty "bool", t, _, b2, rfl, .ty "bool", ty, k2, b2, rfl, q⟩
    | false => exact iteF q
theorem ok__is_mark_class {f f1 : Addr} {fd fd1 : FuncData} {k : Nat} (F : Fun K "_is_mark_class" "_is_mark_class" s__is_mark_class f fd) (T : Txt K mg) (TT : TabT K mg A) (C_is_number : Cal P w K mg base CX0 k "is_number" ["thing"] spNum f1 fd1) :
    FnOk P w K mg base CX0 (k + 1) f fd ["thing"] spCls := by
  refine F.ok sc__is_mark_class (fun vs H Q E h => ?_) (fun cdv A' outer s H vs Q E hr h => ?_)
  · obtain ⟨i, rfl, _⟩ := h
    rfl
  · obtain ⟨i, rfl, q⟩ := h
    have Tc_MARK_CLASSES := TT.gx
    refine ⟨_, (pss_one (ps_ret (pe_and (pe_call C_is_number.ok hr (by rfl) C_is_number.mg C_is_number.kp C_is_number.b .nil pass0 (pa_cons (pv 0) pa_nil)) (pe_one (pe_cmpR op_in_seq (pv 0) (pe_gx (by rfl) Tc_MARK_CLASSES) (by rfl)))))), ?_⟩
    exact ⟨_, rfl, _, rfl, .o (.int i), true, rfl, iteT ⟨_, rfl, A.MC, CLS, rfl, .inr (TT.sq H), rfl, by decide, q⟩⟩
theorem ok__with_folds {f : Addr} {fd : FuncData} {k : Nat} (F : Fun K "_with_folds" "_with_folds" s__with_folds f fd) : FnOk P w K mg base CX0 (k + 1) f fd ["folds", "text"] spFolded := by
  refine F.ok sc__with_folds (fun vs H Q E h => ?_) (fun cdv A outer s H vs Q E hr h => ?_)
  · obtain ⟨d, z, fs, rfl, _⟩ := h
    rfl
  · obtain ⟨d, z, fs, rfl, hd, hz, h3, q⟩ := h
    have hu := hu_of hr
    refine ⟨_, (pss_one (ps_ret (pe_join pe_str (pe_lc (own := [("sign", 2)]) (g := gName 2) (tt := tYes) rfl sc__with_folds.nd (pi_str (pv 1)) (blkOk_by (own := [("sign", 2)]) (N := sc__with_folds_N) (sc := defScope s__with_folds) (by decide +kernel)) (fun _ _ _ _ _ => (pg_name (i := 2) sc__with_folds.nd rfl (Or.inl rfl))) (fun _ _ _ _ _ => pts_nil) (fun _ _ _ _ _ => (pe_dget2 hu (pv 0) (pv 2) (pv 2) ⟨rfl, rfl, rfl, rfl⟩)))))), ?_⟩
    have e1 : foldL fs z.cps.toList = (z.cps.toList.map (foldC fs)).flatten := rfl
    rw [e1] at q
    have hl : ((z.cps.toList.map (foldC fs)).flatten).length ≤ 3 * z.cps.toList.length := foldL_len fun c hc => by
      unfold foldC
      cases e : lk fs c with
      | none => exact (by decide : 1 ≤ 3)
      | some w => exact h3 _ (lk_mem e)
    refine s_ret (ev_joinS (ls := z.cps.toList.map (foldC fs)) (ev_is ev_c (by rw [emp_str])) ?_ (by rw [← len_str] at hl; omega)) fun H1 e2 => q H1 e2
    have h1 := el_lcS (t := tYes) (σ := start sc__with_folds_N [.ref d, .str z]) (H := H) (j := 2) (vs := [2]) (te := tVar 1) (ta := tDGet2 (tVar 0) (tVar 2) (tVar 2)) (fun _ => true) (fun c => .str (stL (foldC fs c))) (ev_var rfl) (by omega) (fun _ => rfl) (fun _ _ _ _ => et_yes) fun c H2 e3 m _ =>
      ev_is (ev_dget2 (k := Sum.inr (sgS c)) (ev_var rfl) (ev_var rfl) (ev_var rfl) (e3 _ _ hd)) (by rw [valV_kF]; unfold foldC; cases lk fs c <;> rfl)
    rw [List.filter_eq_self.mpr fun _ _ => rfl] at h1
    rw [List.map_map]
    exact h1
theorem ok__run_in_order {f : Addr} {fd : FuncData} {k : Nat} (F : Fun K "_run_in_order" "_run_in_order" s__run_in_order f fd) (TT : TabT K mg A) : FnOk P w K mg base CX0 (k + 1) f fd ["marks", "run"] spRun := by
  refine F.ok sc__run_in_order (fun vs H Q E h => ?_) (fun cdv A' outer s H vs Q E hr h => ?_)
  · obtain ⟨d, z, ms, rfl, _⟩ := h
    rfl
  · obtain ⟨d, z, ms, rfl, hd, hz, hm, q⟩ := h
    have hu := hu_of hr
    have Tc_MARK_CLASSES := TT.gx
    refine ⟨_, (pss_one (ps_ret (pe_join pe_str (pe_lc2 (own := [("level", 2), ("mark", 3)]) (vs1 := [3]) (g := gName 2) (g1 := gName 3) (tt := tYes) rfl sc__run_in_order.nd (pi_tup (pe_gx (by rfl) Tc_MARK_CLASSES)) (blkOk_by (own := [("level", 2), ("mark", 3)]) (N := sc__run_in_order_N) (sc := defScope s__run_in_order) (by decide +kernel)) (by decide) (fun _ _ _ _ _ => (pg_name (i := 2) sc__run_in_order.nd rfl (Or.inl rfl))) (fun _ _ _ _ _ => pts_nil) (fun _ _ _ _ _ => (pi_str (pv 1))) (fun _ _ _ _ _ => (pg_name (i := 3) sc__run_in_order.nd rfl (Or.inl rfl))) (fun _ _ _ _ _ => pts_one (pt_cmpR op_eq (pe_dget hu (pv 0) (pv 3) (fun _ _ => rfl)) (pv 2) (nomark _))) (fun _ _ _ _ _ => (pv 3)))))), ?_⟩
    have e1 : runS ms z.cps.toList = (CLS.map fun x => z.cps.toList.filter fun c => decide ((lk ms c).map V.int = some x)).flatten := by
      have e : ∀ i : Int, (z.cps.toList.filter fun c => decide (lk ms c = some i)) = z.cps.toList.filter fun c => decide ((lk ms c).map V.int = some (V.int i)) := fun i => by
        congr 1
        funext c
        rw [decide_eq_decide]
        constructor
        · intro h
          rw [h]
          rfl
        · intro h
          obtain ⟨j, hj, e⟩ := Option.map_eq_some_iff.mp h
          rw [hj, V.int.inj e]
      unfold runS CLS
      rw [e, e, e]
      simp
    have hl : (runS ms z.cps.toList).length ≤ 3 * z.length := by
      unfold runS
      rw [List.length_append, List.length_append]
      have h0 : z.cps.toList.length = z.length := by simp [Str.length]
      have h1 := List.length_filter_le (fun c => decide (lk ms c = some 1)) z.cps.toList
      have h2 := List.length_filter_le (fun c => decide (lk ms c = some 2)) z.cps.toList
      have h3 := List.length_filter_le (fun c => decide (lk ms c = some 3)) z.cps.toList
      omega
    rw [e1] at q hl
    refine s_ret (ev_join0 (ev_is ev_c (by rw [emp_str])) (el_lc2 (fun x c => decide ((lk ms c).map V.int = some x)) ev_c (TT.sq H) (by omega) (by decide) (fun _ => rfl) (fun _ _ => rfl) (fun x H1 e2 hx => ev_var rfl) (fun x c H1 e2 hx hc => ?_) fun x c H1 e2 hx hc => ev_var rfl) (by omega)) fun H1 e2 => q H1 e2
    obtain ⟨i, hi⟩ := Option.isSome_iff_exists.mp (hm c hc)
    obtain ⟨j, rfl⟩ : ∃ j : Int, x = V.int j := by
      rcases List.mem_cons.mp hx with h | hx
      · exact ⟨_, h⟩
      · rcases List.mem_cons.mp hx with h | hx
        · exact ⟨_, h⟩
        · exact ⟨_, List.mem_singleton.mp hx⟩
    refine et_is (et_test (ev_eqI (ev_dget (k := Sum.inr (sgS c)) (v := V.int i) (ev_var rfl) (ev_var rfl) (e2 _ _ hd) (by rw [valV_kM, hi]; rfl)) (ev_var rfl))) ?_
    rw [hi, decide_eq_decide]
    show i = j ↔ some (V.int i) = some (V.int j)
    exact ⟨fun h => by rw [h], fun h => V.int.inj (Option.some.inj h)⟩
end
section
variable {P : Program} {w : World} {K : Fg} {mg : Str → Option Value} {base : Heap} {A : TabA}
theorem sp_run {H : Hp} {d : Addr} {ms : Mks} {l : List Nat} (hd : H d = some (.dK (kM ms))) (hl : l.length ≤ 5000) (hm : ∀ c ∈ l, isM ms c = true) : SpV spRun ([.ref d, .str (stL l)] ++ []) H (.str (stL (runS ms l))) := fun H1 e Q q _ =>
  ⟨d, stL l, ms, rfl, e _ _ hd, by rw [stL_len]; exact hl, by rw [stL_codes]; exact hm, fun H2 e2 => by rw [stL_codes]; exact q H2 e2⟩
theorem ordL_none {ms : Mks} : ∀ {l run : List Nat}, (∀ c ∈ l, isM ms c = false) → run = [] → ordL ms l run = l
  | [], _, _, rfl => rfl
  | c :: r, _, h, rfl => by
    rw [ordL_sign (h c (List.mem_cons_self ..)), ordL_none (fun b hb => h b (List.mem_cons_of_mem _ hb)) rfl]
    rfl
theorem ok__with_marks_in_order {f f1 : Addr} {fd fd1 : FuncData} {k : Nat} (F : Fun K "_with_marks_in_order" "_with_marks_in_order" s__with_marks_in_order f fd) (T : Txt K mg) (C__run_in_order : Cal P w K mg base CX0 k "_run_in_order" ["marks", "run"] spRun f1 fd1) :
    FnOk P w K mg base CX0 (k + 1) f fd ["marks", "text"] spMarks := by
  refine F.ok sc__with_marks_in_order (fun vs H Q E h => ?_) (fun cdv A' outer s H vs Q E hr h => ?_)
  · obtain ⟨d, z, ms, rfl, _⟩ := h
    rfl
  · obtain ⟨d, z, ms, rfl, hd, hz, ok, q⟩ := h
    have hu := hu_of hr
    have hzl : z.cps.toList.length = z.length := by simp [Str.length]
    refine ⟨_, (pss_cons (ps_if (pt_not (pt_val (pe_callB (cr_any rfl) (by rfl) T.b_any (by decide +kernel) (pa_cons (pe_lc (own := [("sign", 2)]) (g := gName 2) (tt := tYes) rfl sc__with_marks_in_order.nd (pi_str (pv 1)) (blkOk_by (own := [("sign", 2)]) (N := sc__with_marks_in_order_N) (sc := defScope s__with_marks_in_order) (by decide +kernel)) (fun _ _ _ _ _ => (pg_name (i := 2) sc__with_marks_in_order.nd rfl (Or.inl rfl))) (fun _ _ _ _ _ => pts_nil) (fun _ _ _ _ _ => (pe_cmp (pc_din hu (pv 2) (pv 0)) rfl))) pa_nil)))) (pss_one (ps_ret (pv 1))) pss_nil)
      (pss_cons (ps_set (i := 3) sc__with_marks_in_order.nd rfl (Or.inl rfl) pe_str)
      (pss_cons (ps_set (i := 4) sc__with_marks_in_order.nd rfl (Or.inl rfl) pe_str)
      (pss_cons (ps_for PassesOwn.never rfl (pi_str (pv 1)) (pg_name (i := 2) sc__with_marks_in_order.nd rfl (Or.inl rfl)) (pss_one (ps_if (pt_cmp (pc_din hu (pv 2) (pv 0))) (pss_one (ps_set (i := 4) sc__with_marks_in_order.nd rfl (Or.inl rfl) (pe_op op_add_str (pv 4) (pv 2)))) (pss_cons (ps_set (i := 3) sc__with_marks_in_order.nd rfl (Or.inl rfl) (pe_op op_add_str (pe_op op_add_str (pv 3) (pe_call C__run_in_order.ok hr (by rfl) C__run_in_order.mg C__run_in_order.kp C__run_in_order.b .nil pass0 (pa_cons (pv 0) (pa_cons (pv 4) pa_nil)))) (pv 2)))
      (pss_one (ps_set (i := 4) sc__with_marks_in_order.nd rfl (Or.inl rfl) pe_str))))))
      (pss_one (ps_ret (pe_op op_add_str (pv 3) (pe_call C__run_in_order.ok hr (by rfl) C__run_in_order.mg C__run_in_order.kp C__run_in_order.b .nil pass0 (pa_cons (pv 0) (pa_cons (pv 4) pa_nil)))))))))), ?_⟩
    have lc := el_lcS (t := tYes) (σ := start sc__with_marks_in_order_N [.ref d, .str z]) (H := H) (j := 2) (vs := [2]) (te := tVar 1) (ta := tDIn (tVar 2) (tVar 0)) (fun _ => true) (fun c => .bl (isM ms c)) (ev_var rfl) (by omega) (fun _ => rfl) (fun _ _ _ _ => et_yes) fun c H4 e4 m _ =>
      ev_is (ev_din (k := Sum.inr (sgS c)) (ev_var rfl) (ev_var rfl) (e4 _ _ hd)) (by rw [valV_kM]; unfold isM; cases lk ms c <;> rfl)
    rw [List.filter_eq_self.mpr fun _ _ => rfl, map_bl] at lc
    cases hn : z.cps.toList.any (isM ms) with
    | false =>
      refine q_when (b := true) (et_is (et_not (et_B (ev_any lc))) (by rw [List.any_map, Function.id_comp]; show (!(z.cps.toList.any (isM ms))) = true; rw [hn]; rfl)) (fun _ H1 e1 => s_ret (ev_is (ev_var rfl) ?_) fun H2 e2 => q H2 (e1.trans e2)) (fun z => nomatch z)
      have h0 : ordL ms z.cps.toList [] = z.cps.toList := ordL_none (fun c hc => by simpa using List.any_eq_false.mp hn c hc) rfl
      rw [h0]
      exact congrArg V.str (Str.ext' (Array.toList_inj.mp (by rw [stL_codes])))
    | true =>
    refine q_when (b := false) (et_is (et_not (et_B (ev_any lc))) (by rw [List.any_map, Function.id_comp]; show (!(z.cps.toList.any (isM ms))) = false; rw [hn]; rfl)) (fun z => nomatch z) fun _ H0 e0 => ?_
    have em : V.str (Str.ofString "") = V.str (stL []) := by rw [emp_str]; rfl
    refine q_asg (ev_is ev_c em) fun H1 e1' => q_asg (ev_is ev_c em) fun H2 e2 => ?_
    have e1 := e0.trans e1'
    refine ⟨_, rfl, z, rfl, for_it walk_str (fun i σ' H' => ∃ (dn rn : List Nat) (y : Option V), σ' = [some (.ref d), some (.str z), y, some (.str (stL dn)), some (.str (stL rn))] ∧ Ex H H' ∧ (∀ c ∈ rn, isM ms c = true) ∧
      dn.length + rn.length ≤ i ∧ dn ++ ordL ms (z.cps.toList.drop i) rn = ordL ms z.cps.toList []) ⟨[], [], none, rfl, e1.trans e2, (fun c h => absurd h List.not_mem_nil), Nat.le_refl 0, by simp⟩ (fun _ _ _ _ _ => trivial) ?_ ?_⟩
    · rintro i x σ' H3 H3' hi ⟨dn, rn, y, rfl, e3, hm, hlen, heq⟩ ⟨rfl, c, hc, rfl⟩
      have hi' : i < z.length := hi
      have hc' : z.cps.toList[i]? = some c := by rw [Array.getElem?_toList]; exact hc
      have hdrop : z.cps.toList.drop i = c :: z.cps.toList.drop (i + 1) := by
        obtain ⟨h1, h2⟩ := List.getElem?_eq_some_iff.mp hc'
        rw [List.drop_eq_getElem_cons h1, h2]
      rw [hdrop] at heq
      refine s_if (b := isM ms c) (et_is (et_B (ev_din (k := Sum.inr (sgS c)) (ev_var rfl) (ev_var rfl) (e3 _ _ hd))) (by rw [valV_kM]; unfold isM; cases lk ms c <;> rfl)) (fun hb H4 e4 => ?_) (fun hb H4 e4 => ?_)
      · rw [ordL_mark hb] at heq
        refine s_asg (ev_is (ev_addS (ev_var rfl) (ev_var rfl) (by rw [stL_len]; show _ + 1 ≤ _; omega)) (show V.str (stL rn ++ sgS c) = V.str (stL (rn ++ [c])) by rw [sgS_stL, stL_app])) fun H5 e5 => ⟨dn, rn ++ [c], _, rfl, (e3.trans e4).trans e5, ?_, ?_, heq⟩
        · intro b hb'
          rcases List.mem_append.mp hb' with h | h
          · exact hm b h
          · rw [List.mem_singleton.mp h]
            exact hb
        · rw [List.length_append]
          show _ + (_ + 1) ≤ _
          omega
      · rw [ordL_sign hb] at heq
        have hrl : (runS ms rn).length = rn.length := len_runS ok hm
        refine q_asg (ev_is (ev_addS (ev_addS (ev_var rfl) (ev_call (ea_cons (ev_var rfl) (ea_cons (ev_var rfl) ea_nil)) (sp_run ((e3.trans e4) _ _ hd) (by omega) hm)) (by rw [stL_len, stL_len]; omega)) (ev_var rfl) (by rw [stL_app, stL_len, List.length_append]; show _ + 1 ≤ _; omega))
          (show V.str (stL dn ++ stL (runS ms rn) ++ sgS c) = V.str (stL (dn ++ runS ms rn ++ [c])) by rw [sgS_stL, stL_app, stL_app])) fun H5 e5 => ?_
        refine s_asg (ev_is ev_c em) fun H6 e6 => ⟨dn ++ runS ms rn ++ [c], [], _, rfl, ((e3.trans e4).trans e5).trans e6, (fun c h => absurd h List.not_mem_nil), ?_, ?_⟩
        · rw [List.length_append, List.length_append]
          show _ + 1 + 0 ≤ _
          omega
        · rw [← heq]
          simp
    · rintro σ' H3 ⟨dn, rn, y, rfl, e3, hm, hlen, heq⟩
      have hlen' : dn.length + rn.length ≤ z.length := hlen
      have hrl : (runS ms rn).length = rn.length := len_runS ok hm
      have e9 : z.cps.toList.drop z.cps.size = [] := List.drop_of_length_le (by simp)
      rw [e9] at heq
      refine s_ret (ev_is (ev_addS (ev_var rfl) (ev_call (ea_cons (ev_var rfl) (ea_cons (ev_var rfl) ea_nil)) (sp_run (e3 _ _ hd) (by omega) hm)) (by rw [stL_len, stL_len]; omega)) (show V.str (stL dn ++ stL (runS ms rn)) = V.str (stL (ordL ms z.cps.toList [])) by rw [stL_app, ← heq]; rfl)) fun H4 e4 => q H4 (e3.trans e4)
/-- the two properties -/
theorem ok_folds {f : Addr} {fd : FuncData} {k : Nat} (F : Fun K "folds" "Table.folds" s_Table_folds f fd) (T : Txt K mg) (TT : TabT K mg A) : FnOk P w K mg base CX0 (k + 1) f fd ["self"] (spProp A.C "_folds") := by
  refine F.ok sc_Table_folds (fun vs H Q E h => ?_) (fun cdv A' outer s H vs Q E hr h => ?_)
  · obtain ⟨a, dx, fs, p, kvs, rfl, _⟩ := h
    rfl
  · obtain ⟨a, dx, fs, p, kvs, rfl, ha, hf, hp, q⟩ := h
    refine ⟨_, (pss_one (ps_ret (pe_callTy call_dictD (by rfl) T.b_dict (by decide +kernel) (pa_cons (pe_fld (pv 0) rfl) pa_nil)))), ?_⟩
    exact ⟨_, rfl, a, A.C, dx, fs, .ref p, rfl, ha, TT.cl, TT.nF, hf, p, kvs, rfl, .inl hp, q⟩
theorem ok_marks {f : Addr} {fd : FuncData} {k : Nat} (F : Fun K "marks" "Table.marks" s_Table_marks f fd) (T : Txt K mg) (TT : TabT K mg A) : FnOk P w K mg base CX0 (k + 1) f fd ["self"] (spProp A.C "_marks") := by
  refine F.ok sc_Table_marks (fun vs H Q E h => ?_) (fun cdv A' outer s H vs Q E hr h => ?_)
  · obtain ⟨a, dx, fs, p, kvs, rfl, _⟩ := h
    rfl
  · obtain ⟨a, dx, fs, p, kvs, rfl, ha, hf, hp, q⟩ := h
    refine ⟨_, (pss_one (ps_ret (pe_callTy call_dictD (by rfl) T.b_dict (by decide +kernel) (pa_cons (pe_fld (pv 0) rfl) pa_nil)))), ?_⟩
    exact ⟨_, rfl, a, A.C, dx, fs, .ref p, rfl, ha, TT.cl, TT.nM, hf, p, kvs, rfl, .inl hp, q⟩
theorem ok_key_of {f f1 f2 : Addr} {fd fd1 fd2 : FuncData} {k : Nat} (F : Fun K "key_of" "key_of" s_key_of f fd) (TT : TabT K mg A)
    (C__with_marks_in_order : Cal P w K mg base CX0 k "_with_marks_in_order" ["marks", "text"] spMarks f1 fd1) (C__with_folds : Cal P w K mg base CX0 k "_with_folds" ["folds", "text"] spFolded f2 fd2) : FnOk P w K mg base CX0 (k + 2) f fd ["table", "word"] (spKeyOf A.C) := by
  refine F.ok sc_key_of (fun vs H Q E h => ?_) (fun cdv A' outer s H vs Q E hr h => ?_)
  · obtain ⟨a, z, fs, ms, rfl, _⟩ := h
    rfl
  · obtain ⟨a, z, fs, ms, rfl, ⟨dx, p, pm, ha, hp, hpm⟩, ro, hz, q⟩ := h
    have hr1 : Room k _ := hr.mono (by omega)
    have hzl : z.cps.toList.length = z.length := by simp [Str.length]
    refine ⟨_, (pss_one (ps_ret (pe_call C__with_marks_in_order.ok hr1 (by rfl) C__with_marks_in_order.mg C__with_marks_in_order.kp C__with_marks_in_order.b .nil pass0 (pa_cons (pe_fld (pv 0) rfl) (pa_cons (pe_call C__with_folds.ok hr1 (by rfl) C__with_folds.mg C__with_folds.kp C__with_folds.b .nil pass0 (pa_cons (pe_fld (pv 0) rfl) (pa_cons (pv 1) pa_nil))) pa_nil))))), ?_⟩
    refine ⟨_, rfl, a, A.C, dx, _, .ref pm, rfl, ha, TT.cl, TT.nM, tabF_m _ _, ?_⟩
    refine ⟨_, rfl, a, A.C, dx, _, .ref p, rfl, ha, TT.cl, TT.nF, tabF_f _ _, ?_⟩
    refine ⟨_, rfl, p, z, fs, rfl, hp, hz, fun x hx => (ro.fw x hx).1.le, fun H3 e3 => ?_⟩
    have hfl : (foldL fs z.cps.toList).length ≤ 3 * z.cps.toList.length := foldL_len fun c hc => by
      unfold foldC
      cases e : lk fs c with
      | none => exact (by decide : 1 ≤ 3)
      | some w => exact (ro.fw _ (lk_mem e)).1.le
    refine ⟨pm, _, ms, rfl, e3 _ _ hpm, by rw [stL_len]; omega, ro.okM, fun H4 e4 => ?_⟩
    rw [stL_codes]
    exact q H4 (e3.trans e4)
/-- NoWord.__init__ -/
def spNoWI (CW : Addr) : Sp := fun vs H Q _ => ∃ a x, vs = [.ref a, x] ∧ H a = some (exo a CW none) ∧ ∀ d, H d = none → d ≠ a → Q .non (upd (upd H d (exd d [(("word" : Str), x)])) a (exo a CW (some d)))
theorem ok_noword {f : Addr} {fd : FuncData} {k : Nat} (F : Fun K "__init__" "NoWord.__init__" s_NoWord___init__ f fd) (TT : TabT K mg A) : FnOk P w K mg base CX0 (k + 1) f fd ["self", "word"] (spNoWI A.CW) := by
  refine F.ok sc_NoWord___init__ (fun vs H Q E h => ?_) (fun cdv A' outer s H vs Q E hr h => ?_)
  · obtain ⟨a, x, rfl, _⟩ := h
    rfl
  · obtain ⟨a, x, rfl, ha, q⟩ := h
    refine ⟨_, (pss_one (ps_ost (pv 0) (pv 1))), ?_⟩
    exact ⟨_, rfl, _, rfl, a, A.CW, rfl, TT.ow, TT.nW, .inl ⟨ha, q⟩⟩
theorem ok_call {f f1 f2 : Addr} {fd fd1 fd2 fd3 : FuncData} {k : Nat} (F : Fun K "__call__" "Table.__call__" s_Table___call__ f fd) (TT : TabT K mg A) (C_is_word : Cal P w K mg base CX0 k "is_word" ["thing"] (spUpTo 40) f1 fd1)
    (C_key_of : Cal P w K mg base CX0 k "key_of" ["table", "word"] (spKeyOf A.C) f2 fd2) (C_nowI : CalM P w K mg base CX0 k ["self", "word"] (spNoWI A.CW) A.fw fd3) : FnOk P w K mg base (L2.CX P w) (k + 2) f fd ["self", "word"] (spCallT A.C A.CW) := by
  refine F.okX sc_Table___call__ (fun vs H Q E h => ?_) (fun cdv A' outer s H vs Q E hr h => ?_)
  · obtain ⟨a, x, fs, ms, rfl, _⟩ := h
    rfl
  · obtain ⟨a, x, fs, ms, rfl, ht, ro, h⟩ := h
    have hr1 : Room k _ := hr.mono (by omega)
    refine ⟨_, (pss_cons (ps_if (pt_not (pt_val (pe_call C_is_word.ok hr1 (by rfl) C_is_word.mg C_is_word.kp C_is_word.b .nil pass0 (pa_cons (pv 1) pa_nil)))) (pss_one (ps_raise rfl (takes_of rfl rfl rfl rfl) (pmk_oex TT.ow TT.iW TT.tW C_nowI.ok hr C_nowI.b .nil pass0 (by rfl) TT.mgW (pa_cons (pv 1) pa_nil)))) pss_nil)
      (pss_one (ps_ret (pe_call C_key_of.ok hr1 (by rfl) C_key_of.mg C_key_of.kp C_key_of.b .nil pass0 (pa_cons (pv 0) (pa_cons (pv 1) pa_nil)))))), ?_⟩
    -- NoWord(word)
    have bad : ∀ H1, Same H H1 → NoW A.CW x H E → tMkO A.CW (spNoWI A.CW) [] (tCons (tVar 1) tNil) (start sc_Table___call___N [.ref a, x]) H1 (fun cls d H' => E cls d H') := fun H1 s1 nw => by
      refine ⟨_, rfl, (by decide : 1 ≤ 1000), fun e ne => ⟨e, x, rfl, upd_same, fun d hd hne => ⟨rfl, d, [(("word" : Str), x)], upd_same, (upd_ne hne).trans upd_same, ?_, ?_⟩⟩⟩
      · rw [← hd, upd_ne hne]
      · have hd1 : H1 d = none := by rw [← hd, upd_ne hne]
        refine nw d _ (s1.free hd1) (fun b o hb => ?_) upd_same
        have h1 := s1 _ _ hb
        rw [upd_ne (ne_of_none h1 hd1), del_ne (ne_of_none h1 ne), upd_ne (ne_of_none h1 ne), upd_ne (ne_of_none h1 hd1), upd_ne (ne_of_none h1 ne)]
        exact h1
    rcases h with ⟨z, rfl, hz, h1, h2⟩ | ⟨ho, nw⟩
    · refine ⟨_, rfl, _, rfl, .inl ⟨z, rfl, by omega, fun H1 s1 => ⟨_, rfl, ?_⟩⟩⟩
      cases hb : upTo z 40 with
      | true => exact iteF ⟨_, rfl, _, rfl, a, z, fs, ms, rfl, ht.same s1, ro, hz, fun H2 e2 => h1 hb H2 (s1.trans e2)⟩
      | false => exact iteT (bad H1 s1 (h2 hb))
    · exact ⟨_, rfl, _, rfl, .inr ⟨ho, _, rfl, iteT (bad H (Same.refl H) nw)⟩⟩
end
section
variable {P : Program} {w : World} {K : Fg} {mg : Str → Option Value} {base : Heap} {A : TabA}
theorem sp_sign {H : Hp} {c : Nat} : SpV spSg ([.str (sgS c)] ++ []) H (.bl (sgn c)) := fun H1 e Q q _ => ⟨_, rfl, .inl ⟨sgS c, rfl, (by show 1 ≤ 100000; decide), by rw [isSg_sg]; exact q H1 (Ex.refl _)⟩⟩
theorem sp_fits {H : Hp} {l : List Nat} {n : Nat} (hl : l.length ≤ 100000) (h : Wd l n) : SpV (spUpTo n) ([.str (stL l)] ++ []) H (.bl true) := fun H1 e Q q _ =>
  ⟨_, rfl, .inl ⟨stL l, rfl, by rw [stL_len]; exact hl, fun H2 s => by rw [upTo_iff.mpr h]; exact q H2 s⟩⟩
theorem sp_class {H : Hp} {i : Int} (h : i = 1 ∨ i = 2 ∨ i = 3) : SpV spCls ([.int i] ++ []) H (.bl true) := fun H1 e Q q _ => ⟨i, rfl, by rw [clB_ok h]; exact q H1 (Ex.refl _)⟩
theorem key_mem {α : Type} {l : List (Nat × α)} {ys : List Str} {i : Nat} {x : V} (hp : ys.Perm ((l.map (·.1)).map sgS)) (hx : (ys.map V.str)[i]? = some x) : ∃ p ∈ l, x = .str (sgS p.1) := by
  obtain ⟨y, hy, rfl⟩ := List.mem_map.mp (List.mem_of_getElem? hx)
  obtain ⟨c, hc, rfl⟩ := List.mem_map.mp (hp.mem_iff.mp hy)
  obtain ⟨p, hp, rfl⟩ := List.mem_map.mp hc
  exact ⟨p, hp, rfl⟩
theorem ok__check_folds {f f1 f2 : Addr} {fd fd1 fd2 : FuncData} {k : Nat} (F : Fun K "_check_folds" "_check_folds" s__check_folds f fd) (T : Txt K mg) (C_is_sign : Cal P w K mg base CX0 k "is_sign" ["thing"] spSg f1 fd1)
    (C__is_fold_word : Cal P w K mg base CX0 k "_is_fold_word" ["thing"] (spUpTo 3) f2 fd2) : FnOk P w K mg base CX0 (k + 1) f fd ["folds"] spChkF := by
  refine F.ok sc__check_folds (fun vs H Q E h => ?_) (fun cdv A' outer s H vs Q E hr h => ?_)
  · obtain ⟨d, fs, ms, rfl, _⟩ := h
    rfl
  · obtain ⟨d, fs, ms, rfl, hd, ro, q⟩ := h
    have hu := hu_of hr
    refine ⟨_, (pss_one (ps_for PassesOwn.never rfl (pi_list (pe_callB (call_sortedD rfl) (by rfl) T.b_sorted (by decide +kernel) (pa_cons (pv 0) pa_nil))) (pg_name (i := 1) sc__check_folds.nd rfl (Or.inl rfl)) (pss_cons (ps_if (pt_not (pt_val (pe_call C_is_sign.ok hr (by rfl) C_is_sign.mg C_is_sign.kp C_is_sign.b .nil pass0 (pa_cons (pv 1) pa_nil)))) (pss_one ps_never) pss_nil)
      (pss_cons (ps_if (pt_not (pt_val (pe_call C__is_fold_word.ok hr (by rfl) C__is_fold_word.mg C__is_fold_word.kp C__is_fold_word.b .nil pass0 (pa_cons (pe_dget hu (pv 0) (pv 1) (fun _ _ => rfl)) pa_nil)))) (pss_one ps_never) pss_nil)
      (pss_one (ps_if (pt_val (pe_callB (cr_any rfl) (by rfl) T.b_any (by decide +kernel) (pa_cons (pe_lc (own := [("sign", 2)]) (g := gName 2) (tt := tYes) rfl sc__check_folds.nd (pi_str (pe_dget hu (pv 0) (pv 1) (fun _ _ => rfl))) (blkOk_by (own := [("sign", 2)]) (N := sc__check_folds_N) (sc := defScope s__check_folds) (by decide +kernel)) (fun _ _ _ _ _ => (pg_name (i := 2) sc__check_folds.nd rfl (Or.inl rfl))) (fun _ _ _ _ _ => pts_nil) (fun _ _ _ _ _ => (pe_cmp (pc_din hu (pv 2) (pv 0)) rfl))) pa_nil))) (pss_one ps_never) pss_nil)))))), ?_⟩
    refine ⟨_, rfl, d, kF fs, _, rfl, .inl hd, kF_keys fs, by rw [List.length_map, List.length_map]; have := ro.fl; omega, fun ys p perm _ np => ⟨p, rfl, ⟨_, sq_of upd_same⟩, ?_⟩⟩
    have s0 := same_new (o := .lst (ys.map V.str)) np
    refine for_it walk_list (fun i σ' H' => ∃ y1 y2, σ' = [some (.ref d), y1, y2] ∧ Same (upd H p (.lst (ys.map V.str))) H') ⟨none, none, rfl, Same.refl _⟩ (fun i σ' H' _ ⟨_, _, _, s1⟩ => sq_of (s1 _ _ upd_same)) ?_ ?_
    · rintro i x σ' H1 H1' hi ⟨y1, y2, rfl, s1⟩ ⟨rfl, hx⟩
      obtain ⟨⟨c, l⟩, hp, rfl⟩ := key_mem perm hx
      have hd1 : H1' d = some (.dK (kF fs)) := s1 _ _ (s0 _ _ hd)
      have hl := lk_of_mem ro.fn hp
      obtain ⟨hw, hn⟩ := ro.fw _ hp
      have hlen : l.length ≤ 3 := hw.le
      have get : ∀ {σ : L2.St} {H2 : Hp} {y : Option V}, Ex H1' H2 → σ = [some (.ref d), some (.str (sgS c)), y] → Ev (tDGet (tVar 0) (tVar 1)) σ H2 (.str (stL l)) := fun e2 es => by
        subst es
        exact ev_dget (k := Sum.inr (sgS c)) (ev_var rfl) (ev_var rfl) (e2 _ _ hd1) (by rw [valV_kF, hl]; rfl)
      refine q_when (b := false) (et_is (et_not (et_B (ev_call (ea_cons (ev_var rfl) ea_nil) sp_sign))) (by rw [ro.fk _ hp]; rfl)) (fun z => nomatch z) fun _ H2 e2 => ?_
      refine q_when (b := false) (et_is (et_not (et_B (ev_call (ea_cons (get e2 rfl) ea_nil) (sp_fits (n := 3) (by omega) hw)))) rfl) (fun z => nomatch z) fun _ H3 e3 => ?_
      have lc := el_lcS (t := tYes) (σ := [some (.ref d), some (.str (sgS c)), y2]) (H := H3) (j := 2) (vs := [2]) (te := tDGet (tVar 0) (tVar 1)) (ta := tDIn (tVar 2) (tVar 0)) (fun _ => true) (fun c => .bl (lk fs c).isSome) (get (e2.trans e3) rfl) (by rw [stL_len]; omega) (fun _ => rfl) (fun _ _ _ _ => et_yes) fun c H4 e4 m _ =>
        ev_is (ev_din (k := Sum.inr (sgS c)) (ev_var rfl) (ev_var rfl) (((e2.trans e3).trans e4) _ _ hd1)) (by rw [valV_kF]; cases lk fs c <;> rfl)
      rw [List.filter_eq_self.mpr fun _ _ => rfl, stL_codes, map_bl] at lc
      refine s_when (b := false) (et_is (et_B (ev_any lc)) ?_) (fun z => nomatch z) fun _ H4 e4 => ⟨_, _, rfl, s1.trans ((e2.trans e3).trans e4)⟩
      rw [List.any_map, List.any_eq_false]
      intro c' hc'
      simp [hn c' hc']
    · rintro σ' H1 ⟨y1, y2, rfl, s1⟩
      exact q H1 (s0.trans s1)
theorem ok__check_marks {f f1 f2 : Addr} {fd fd1 fd2 : FuncData} {k : Nat} (F : Fun K "_check_marks" "_check_marks" s__check_marks f fd) (T : Txt K mg) (C_is_sign : Cal P w K mg base CX0 k "is_sign" ["thing"] spSg f1 fd1)
    (C__is_mark_class : Cal P w K mg base CX0 k "_is_mark_class" ["thing"] spCls f2 fd2) : FnOk P w K mg base CX0 (k + 1) f fd ["marks", "folds"] spChkM := by
  refine F.ok sc__check_marks (fun vs H Q E h => ?_) (fun cdv A' outer s H vs Q E hr h => ?_)
  · obtain ⟨dm, df, fs, ms, rfl, _⟩ := h
    rfl
  · obtain ⟨dm, df, fs, ms, rfl, hf, hm, ro, q⟩ := h
    have hu := hu_of hr
    refine ⟨_, (pss_one (ps_for PassesOwn.never rfl (pi_list (pe_callB (call_sortedD rfl) (by rfl) T.b_sorted (by decide +kernel) (pa_cons (pv 0) pa_nil))) (pg_name (i := 2) sc__check_marks.nd rfl (Or.inl rfl)) (pss_cons (ps_if (pt_not (pt_val (pe_call C_is_sign.ok hr (by rfl) C_is_sign.mg C_is_sign.kp C_is_sign.b .nil pass0 (pa_cons (pv 2) pa_nil)))) (pss_one ps_never) pss_nil)
      (pss_one (ps_if (PW.pt (pw_or (pt_not (pt_val (pe_call C__is_mark_class.ok hr (by rfl) C__is_mark_class.mg C__is_mark_class.kp C__is_mark_class.b .nil pass0 (pa_cons (pe_dget hu (pv 0) (pv 2) (fun _ _ => rfl)) pa_nil)))) (pw_or1 (pt_cmp (pc_din hu (pv 2) (pv 1)))))) (pss_one ps_never) pss_nil))))), ?_⟩
    refine ⟨_, rfl, dm, kM ms, _, rfl, .inl hm, kM_keys ms, by rw [List.length_map, List.length_map]; have := ro.ml; omega, fun ys p perm _ np => ⟨p, rfl, ⟨_, sq_of upd_same⟩, ?_⟩⟩
    have s0 := same_new (o := .lst (ys.map V.str)) np
    refine for_it walk_list (fun i σ' H' => ∃ y1, σ' = [some (.ref dm), some (.ref df), y1] ∧ Same (upd H p (.lst (ys.map V.str))) H') ⟨none, rfl, Same.refl _⟩ (fun i σ' H' _ ⟨_, _, s1⟩ => sq_of (s1 _ _ upd_same)) ?_ ?_
    · rintro i x σ' H1 H1' hi ⟨y1, rfl, s1⟩ ⟨rfl, hx⟩
      obtain ⟨⟨c, n⟩, hp, rfl⟩ := key_mem perm hx
      have hm1 : H1' dm = some (.dK (kM ms)) := s1 _ _ (s0 _ _ hm)
      have hf1 : H1' df = some (.dK (kF fs)) := s1 _ _ (s0 _ _ hf)
      have hl := lk_of_mem ro.mn hp
      refine q_when (b := false) (et_is (et_not (et_B (ev_call (ea_cons (ev_var rfl) ea_nil) sp_sign))) (by rw [(ro.mg _ hp).1]; rfl)) (fun z => nomatch z) fun _ H2 e2 => ?_
      refine s_when (b := false) (et_is (et_or (et_not (et_B (ev_call (ea_cons (ev_dget (k := Sum.inr (sgS c)) (v := .int n) (ev_var rfl) (ev_var rfl) (e2 _ _ hm1) (by rw [valV_kM, hl]; rfl)) ea_nil) (sp_class (ro.mc _ hp))))) fun _ => et_B (ev_din (k := Sum.inr (sgS c)) (ev_var rfl) (ev_var rfl) (e2 _ _ hf1))) ?_) (fun z => nomatch z) fun _ H3 e3 => ⟨_, rfl, s1.trans (e2.trans e3)⟩
      rw [valV_kF, (ro.mg _ hp).2]
      rfl
    · rintro σ' H1 ⟨y1, rfl, s1⟩
      exact q H1 (s0.trans s1)
theorem ok__check_sizes {f : Addr} {fd : FuncData} {k : Nat} (F : Fun K "_check_sizes" "_check_sizes" s__check_sizes f fd) (T : Txt K mg) : FnOk P w K mg base CX0 (k + 1) f fd ["folds", "marks"] spChkS := by
  refine F.ok sc__check_sizes (fun vs H Q E h => ?_) (fun cdv A' outer s H vs Q E hr h => ?_)
  · obtain ⟨dm, df, fs, ms, rfl, _⟩ := h
    rfl
  · obtain ⟨dm, df, fs, ms, rfl, hf, hm, ro, q⟩ := h
    refine ⟨_, (pss_cons (ps_if (pt_cmpR op_gt (pe_callB call_lenD (by rfl) T.b_len PySem.boot_len (pa_cons (pv 0) pa_nil)) (pe_gx (by rfl) T.c_MOST_FOLDS) (nomark _)) (pss_one ps_never) pss_nil)
      (pss_one (ps_if (pt_cmpR op_gt (pe_callB call_lenD (by rfl) T.b_len PySem.boot_len (pa_cons (pv 1) pa_nil)) (pe_gx (by rfl) T.c_MOST_MARKS) (nomark _)) (pss_one ps_never) pss_nil))), ?_⟩
    have h1 := ro.fl
    have h2 := ro.ml
    refine ⟨_, rfl, df, _, rfl, hf, _, _, rfl, rfl, _, rfl, ?_⟩
    rw [kF_len, decide_eq_false (show ¬ (40 : Int) < ((fs.length : Nat) : Int) by omega)]
    refine iteF ⟨_, rfl, dm, _, rfl, hm, _, _, rfl, rfl, _, rfl, ?_⟩
    rw [kM_len, decide_eq_false (show ¬ (8 : Int) < ((ms.length : Nat) : Int) by omega)]
    exact iteF q
theorem ok_init {f f1 f2 f3 : Addr} {fd fd1 fd2 fd3 : FuncData} {k : Nat} (F : Fun K "__init__" "Table.__init__" s_Table___init__ f fd) (T : Txt K mg) (TT : TabT K mg A) (C__check_folds : Cal P w K mg base CX0 k "_check_folds" ["folds"] spChkF f1 fd1)
    (C__check_marks : Cal P w K mg base CX0 k "_check_marks" ["marks", "folds"] spChkM f2 fd2) (C__check_sizes : Cal P w K mg base CX0 k "_check_sizes" ["folds", "marks"] spChkS f3 fd3) : FnOk P w K mg base CX0 (k + 1) f fd ["self", "folds", "marks"] (spInitT A.C) := by
  refine F.ok sc_Table___init__ (fun vs H Q E h => ?_) (fun cdv A' outer s H vs Q E hr h => ?_)
  · obtain ⟨x, dx, df, dm, fs, ms, rfl, _⟩ := h
    rfl
  · obtain ⟨x, dx, df, dm, fs, ms, rfl, hx, hf, hm, ro, q⟩ := h
    refine ⟨_, (pss_cons (ps_expr (pe_call C__check_folds.ok hr (by rfl) C__check_folds.mg C__check_folds.kp C__check_folds.b .nil pass0 (pa_cons (pv 1) pa_nil)))
      (pss_cons (ps_expr (pe_call C__check_marks.ok hr (by rfl) C__check_marks.mg C__check_marks.kp C__check_marks.b .nil pass0 (pa_cons (pv 2) (pa_cons (pv 1) pa_nil))))
      (pss_cons (ps_expr (pe_call C__check_sizes.ok hr (by rfl) C__check_sizes.mg C__check_sizes.kp C__check_sizes.b .nil pass0 (pa_cons (pv 1) (pa_cons (pv 2) pa_nil))))
      (pss_cons (ps_fld (pv 0) (pe_callTy call_dictD (by rfl) T.b_dict (by decide +kernel) (pa_cons (pv 1) pa_nil)) rfl)
      (pss_one (ps_fld (pv 0) (pe_callTy call_dictD (by rfl) T.b_dict (by decide +kernel) (pa_cons (pv 2) pa_nil)) rfl)))))), ?_⟩
    refine ⟨_, rfl, df, fs, ms, rfl, hf, ro, fun H1 s1 => ?_⟩
    refine ⟨_, rfl, _, rfl, dm, df, fs, ms, rfl, s1 _ _ hf, s1 _ _ hm, ro, fun H2 s2 => ?_⟩
    have s12 := s1.trans s2
    refine ⟨_, rfl, _, rfl, dm, df, fs, ms, rfl, s12 _ _ hf, s12 _ _ hm, ro, ?_⟩
    refine ⟨_, rfl, df, _, rfl, .inl (s12 _ _ hf), fun p np => ?_⟩
    have hx2 := s12 _ _ hx
    have nxp : x ≠ p := ne_of_none hx2 np
    refine ⟨_, rfl, x, A.C, dx, [], rfl, (upd_ne nxp).trans hx2, TT.cl, TT.nF, (by show 0 < 1000; decide), ?_⟩
    have hm2 := s12 _ _ hm
    have nmx : dm ≠ x := ne_of hm2 hx2 (by intro z; cases z)
    have nmp : dm ≠ p := ne_of_none hm2 np
    refine ⟨_, rfl, dm, _, rfl, .inl (by rw [upd_ne nmx, upd_ne nmp]; exact hm2), fun p2 np2 => ?_⟩
    have nxp2 : x ≠ p2 := fun e => by rw [← e, upd_same] at np2; cases np2
    have npp2 : p ≠ p2 := fun e => by rw [← e, upd_ne nxp.symm, upd_same] at np2; cases np2
    have np20 : H2 p2 = none := by rw [upd_ne nxp2.symm, upd_ne npp2.symm] at np2; exact np2
    refine ⟨_, rfl, x, A.C, dx, _, rfl, (upd_ne nxp2).trans upd_same, TT.cl, TT.nM, (by show 1 < 1000; decide), ?_⟩
    refine q _ p p2 (s12.free np) (s12.free np20) npp2 upd_same (by rw [upd_ne nxp.symm, upd_ne npp2, upd_ne nxp.symm, upd_same]) (by rw [upd_ne nxp2.symm, upd_same]) fun b o hb e => ?_
    have e2 := s12 _ _ e
    rw [upd_ne hb, upd_ne (ne_of_none e2 np20), upd_ne hb, upd_ne (ne_of_none e2 np)]
    exact e2
end
end Nm


set_option Elab.async false
set_option linter.all false
set_option maxRecDepth 100000
set_option maxHeartbeats 4000000
namespace Nm
open PySem PySem.Spec PyProof.Rows L2 Evl
/-! ### ways -/
abbrev s__put : Stmt := top 3
abbrev sc__put_N : List Str := ["text", "at", "size", "piece"]
theorem sc__put : FnScope sc__put_N ["text", "at", "size", "piece"] (defScope s__put) := ⟨rfl, rfl, rfl, by decide +kernel, rfl, by decide +kernel, by decide +kernel⟩
abbrev s_may_swap : Stmt := top 7
abbrev sc_may_swap_N : List Str := ["marks", "left", "right"]
theorem sc_may_swap : FnScope sc_may_swap_N ["marks", "left", "right"] (defScope s_may_swap) := ⟨rfl, rfl, rfl, by decide +kernel, rfl, by decide +kernel, by decide +kernel⟩
abbrev s__swapped : Stmt := top 8
abbrev sc__swapped_N : List Str := ["text", "at"]
theorem sc__swapped : FnScope sc__swapped_N ["text", "at"] (defScope s__swapped) := ⟨rfl, rfl, rfl, by decide +kernel, rfl, by decide +kernel, by decide +kernel⟩
abbrev s__nearer_to_key : Stmt := top 11
abbrev sc__nearer_to_key_N : List Str := ["folds", "marks", "text", "at", "sign"]
theorem sc__nearer_to_key : FnScope sc__nearer_to_key_N ["folds", "marks", "text"] (defScope s__nearer_to_key) := ⟨rfl, rfl, rfl, by decide +kernel, rfl, by decide +kernel, by decide +kernel⟩
abbrev s__way_to_key : Stmt := top 10
abbrev sc__way_to_key_N : List Str := ["table", "word", "folds", "marks", "way", "text"]
theorem sc__way_to_key : FnScope sc__way_to_key_N ["table", "word"] (defScope s__way_to_key) := ⟨rfl, rfl, rfl, by decide +kernel, rfl, by decide +kernel, by decide +kernel⟩
def putL (l : List Nat) (i n : Nat) (p : List Nat) : List Nat := l.take i ++ p ++ l.drop (i + n)
theorem cut_to {l : List Nat} {i : Nat} : cutS (stL l) none (some (i : Int)) = stL (l.take i) := by
  refine Str.ext' (Array.toList_inj.mp ?_)
  unfold cutS
  rw [stL_len, List.toList_toArray, stL_codes, stL_codes, HT.sIx_none, HT.sIx_nat, List.drop_zero, Nat.sub_zero, ← List.take_take, List.take_length]
theorem cut_from {l : List Nat} {i : Nat} : cutS (stL l) (some (i : Int)) none = stL (l.drop i) := by
  refine Str.ext' (Array.toList_inj.mp ?_)
  unfold cutS
  rw [stL_len, List.toList_toArray, stL_codes, stL_codes, HT.sIx_none, HT.sIx_nat]
  by_cases h : i ≤ l.length
  · rw [Nat.min_eq_left h]
    exact List.take_of_length_le (by rw [List.length_drop]; omega)
  · rw [Nat.min_eq_right (by omega), List.drop_of_length_le (Nat.le_refl _), List.drop_of_length_le (by omega : l.length ≤ i), List.take_nil]
section
variable {te ti : TE} {σ : L2.St} {H : Hp} {z : Str} {l : List Nat}
theorem ev_cutTo {i : Int} (h : Ev te σ H (.str z)) (hi : Ev ti σ H (.int i)) (hz : z.length ≤ 100000) : Ev (tSl rSlS te tNoPart (tPart ti)) σ H (.str (cutS z none (some i))) := fun H1 e Q q =>
  h H1 e _ fun H2 e2 => hi H2 (e.trans e2) _ fun H3 e3 => ⟨i, rfl, z, rfl, sz_of hz, q H3 (e2.trans e3)⟩
theorem ev_cutFrom {i : Int} (h : Ev te σ H (.str z)) (hi : Ev ti σ H (.int i)) (hz : z.length ≤ 100000) : Ev (tSl rSlS te (tPart ti) tNoPart) σ H (.str (cutS z (some i) none)) := fun H1 e Q q =>
  h H1 e _ fun H2 e2 => hi H2 (e.trans e2) _ fun H3 e3 => ⟨i, rfl, z, rfl, sz_of hz, q H3 (e2.trans e3)⟩
theorem ev_ixC {i c : Nat} (ha : Ev te σ H (.str (stL l))) (hb : Ev ti σ H (.int (i : Int))) (hl : l.length ≤ 100000) (hc : l[i]? = some c) : Ev (tOp rIxS te ti) σ H (.str (sgS c)) :=
  ev_op ha hb (rv_ixS (by rw [stL_len]; exact hl) (by rw [stL_codes]; exact atI_nat hc))
theorem ev_addN {i n : Nat} (ha : Ev te σ H (.int (i : Int))) (hb : Ev ti σ H (.int (n : Int))) : Ev (tOp (rI0 fun i j => .int (i + j)) te ti) σ H (.int ((i + n : Nat) : Int)) := ev_is (ev_op ha hb rv_I0) (by rw [Int.natCast_add])
end
def spPut : Sp := fun vs H Q _ => ∃ (l : List Nat) (i n : Nat) (p : List Nat), vs = [.str (stL l), .int (i : Int), .int (n : Int), .str (stL p)] ∧ l.length ≤ 5000 ∧ p.length ≤ 5000 ∧ RetV (.str (stL (putL l i n p))) H Q
def maySw (ms : Mks) (a b : Nat) : Bool := isM ms a && (isM ms b && !decide (lk ms a = lk ms b))
def spMay : Sp := fun vs H Q _ => ∃ d ms a b, vs = [.ref d, .str (sgS a), .str (sgS b)] ∧ H d = some (.dK (kM ms)) ∧ RetV (.bl (maySw ms a b)) H Q
def spSwd : Sp := fun vs H Q _ => ∃ (l : List Nat) (i a b : Nat), vs = [.str (stL l), .int (i : Int)] ∧ l.length ≤ 5000 ∧ l[i]? = some a ∧ l[i + 1]? = some b ∧ RetV (.str (stL (putL l i 2 [b, a]))) H Q
/-- the next text: a fold at the first place where there is one -/
def nearF (fs : Fds) : List Nat → Option (List Nat)
  | [] => none
  | c :: r => match lk fs c with
    | some w => some (w ++ r)
    | none => (nearF fs r).map (c :: ·)
/-- .. or the first two neighbours that fall -/
def nearM (ms : Mks) : List Nat → Option (List Nat)
  | a :: b :: r => if fall ms a b then some (b :: a :: r) else (nearM ms (b :: r)).map (a :: ·)
  | _ => none
def nearL (fs : Fds) (ms : Mks) (l : List Nat) : Option (List Nat) := match nearF fs l with
  | some x => some x
  | none => nearM ms l
theorem nearF_none {fs : Fds} : ∀ {l : List Nat}, (∀ (j c : Nat), l[j]? = some c → lk fs c = none) → nearF fs l = none
  | [], _ => rfl
  | c :: r, h => by
    unfold nearF
    rw [h 0 c rfl, nearF_none fun j d hj => h (j + 1) d hj]
    rfl
theorem nearF_at {fs : Fds} {w : List Nat} : ∀ {l : List Nat} {i c : Nat}, (∀ (j c : Nat), j < i → l[j]? = some c → lk fs c = none) → l[i]? = some c → lk fs c = some w → nearF fs l = some (putL l i 1 w)
  | c :: r, 0, d, _, hd, hw => by
    cases hd
    unfold nearF
    rw [hw]
    rfl
  | c :: r, i + 1, d, h, hd, hw => by
    unfold nearF
    rw [h 0 c (by omega) rfl, nearF_at (l := r) (i := i) (fun j e hj he => h (j + 1) e (by omega) he) hd hw]
    show some (c :: (r.take i ++ w ++ r.drop (i + 1))) = some ((c :: r).take (i + 1) ++ w ++ (c :: r).drop (i + 1 + 1))
    rw [List.take_succ_cons, List.drop_succ_cons]
    rfl
theorem nearM_none {ms : Mks} : ∀ {l : List Nat}, (∀ (j a b : Nat), l[j]? = some a → l[j + 1]? = some b → fall ms a b = false) → nearM ms l = none
  | [], _ => rfl
  | [_], _ => rfl
  | a :: b :: r, h => by
    unfold nearM
    rw [if_neg (by rw [h 0 a b rfl rfl]; exact Bool.false_ne_true), nearM_none fun j x y hx hy => h (j + 1) x y hx hy]
    rfl
theorem nearM_at {ms : Mks} : ∀ {l : List Nat} {i a b : Nat}, (∀ (j a b : Nat), j < i → l[j]? = some a → l[j + 1]? = some b → fall ms a b = false) → l[i]? = some a → l[i + 1]? = some b → fall ms a b = true → nearM ms l = some (putL l i 2 [b, a])
  | a :: b :: r, 0, x, y, _, hx, hy, hf => by
    cases hx
    cases hy
    unfold nearM
    rw [if_pos hf]
    rfl
  | [], _, _, _, _, hx, _, _ => by simp at hx
  | [a], i, x, y, _, _, hy, _ => by simp at hy
  | a :: b :: r, i + 1, x, y, h, hx, hy, hf => by
    unfold nearM
    rw [if_neg (by rw [h 0 a b (by omega) rfl rfl]; exact Bool.false_ne_true), nearM_at (l := b :: r) (i := i) (fun j p q hj hp hq => h (j + 1) p q (by omega) hp hq) hx hy hf]
    rfl
def optS : Option (List Nat) → V
  | some l => .str (stL l)
  | none => .non
def spNear : Sp := fun vs H Q _ => ∃ df dm fs ms l, vs = [.ref df, .ref dm, .str (stL l)] ∧ H df = some (.dK (kF fs)) ∧ H dm = some (.dK (kM ms)) ∧ 1 ≤ l.length ∧ l.length ≤ 5000 ∧ (∀ p ∈ fs, p.2.length ≤ 3) ∧ RetV (optS (nearL fs ms l)) H Q
section
variable {P : Program} {w : World} {K : Fg} {mg : Str → Option Value} {base : Heap} {A : TabA}
theorem ok__put {f : Addr} {fd : FuncData} {k : Nat} (F : Fun K "_put" "_put" s__put f fd) : FnOk P w K mg base CX0 (k + 1) f fd ["text", "at", "size", "piece"] spPut := by
  refine F.ok sc__put (fun vs H Q E h => ?_) (fun cdv A' outer s H vs Q E hr h => ?_)
  · obtain ⟨l, i, n, p, rfl, _⟩ := h
    rfl
  · obtain ⟨l, i, n, p, rfl, hl, hp, q⟩ := h
    refine ⟨_, (pss_one (ps_ret (pe_op op_add_str (pe_op op_add_str (pe_slice sl_str (pv 0) po_none (po_some (pv 1))) (pv 3)) (pe_slice sl_str (pv 0) (po_some (pe_op op_add (pv 1) (pv 2))) po_none)))), ?_⟩
    have l1 : (l.take i).length ≤ l.length := by rw [List.length_take]; omega
    have l2 : (l.drop (i + n)).length ≤ l.length := by rw [List.length_drop]; omega
    refine s_ret (ev_is (ev_addS (ev_is (ev_addS (ev_is (ev_cutTo (ev_var rfl) (ev_var rfl) (by rw [stL_len]; omega)) (by rw [cut_to])) (ev_var rfl) (by rw [stL_len, stL_len]; omega)) (by rw [stL_app])) (ev_is (ev_cutFrom (ev_var rfl) (ev_addN (ev_var rfl) (ev_var rfl)) (by rw [stL_len]; omega)) (by rw [cut_from])) (by rw [stL_len, stL_len, List.length_append]; omega)) (by rw [stL_app]; rfl)) q
theorem sp_put {H : Hp} {l p : List Nat} {i n : Nat} (hl : l.length ≤ 5000) (hp : p.length ≤ 5000) : SpV spPut ([.str (stL l), .int (i : Int), .int (n : Int), .str (stL p)] ++ []) H (.str (stL (putL l i n p))) := fun H1 e Q q _ => ⟨l, i, n, p, rfl, hl, hp, q⟩
theorem ok_may_swap {f : Addr} {fd : FuncData} {k : Nat} (F : Fun K "may_swap" "may_swap" s_may_swap f fd) : FnOk P w K mg base CX0 (k + 1) f fd ["marks", "left", "right"] spMay := by
  refine F.ok sc_may_swap (fun vs H Q E h => ?_) (fun cdv A' outer s H vs Q E hr h => ?_)
  · obtain ⟨d, ms, a, b, rfl, _⟩ := h
    rfl
  · obtain ⟨d, ms, a, b, rfl, hd, q⟩ := h
    have hu := hu_of hr
    refine ⟨_, (pss_one (ps_ret (pe_and (pe_cmp (pc_din hu (pv 1) (pv 0)) rfl) (pe_and (pe_cmp (pc_din hu (pv 2) (pv 0)) rfl) (pe_one (pe_cmpR op_ne (pe_dget hu (pv 0) (pv 1) (fun _ _ => rfl)) (pe_dget hu (pv 0) (pv 2) (fun _ _ => rfl)) (nomark _))))))), ?_⟩
    have isd : ∀ c, (valV (kM ms) (Sum.inr (sgS c))).isSome = isM ms c := fun c => by rw [valV_kM]; unfold isM; cases lk ms c <;> rfl
    refine s_ret (ev_is (ev_andV (ev_din (k := Sum.inr (sgS a)) (ev_var rfl) (ev_var rfl) hd) fun h1 => ev_andV (b := !decide (lk ms a = lk ms b)) (ev_din (k := Sum.inr (sgS b)) (ev_var rfl) (ev_var rfl) hd) fun h2 => ?_) ?_) q
    · rw [isd] at h1 h2
      obtain ⟨x, hx⟩ := Option.isSome_iff_exists.mp h1
      obtain ⟨y, hy⟩ := Option.isSome_iff_exists.mp h2
      refine ev_is (ev_neI (ev_dget (k := Sum.inr (sgS a)) (v := .int x) (ev_var rfl) (ev_var rfl) hd (by rw [valV_kM, hx]; rfl)) (ev_dget (k := Sum.inr (sgS b)) (v := .int y) (ev_var rfl) (ev_var rfl) hd (by rw [valV_kM, hy]; rfl))) ?_
      rw [hx, hy]
      congr 2
      rw [decide_eq_decide]
      exact ⟨fun h => by rw [h], fun h => Option.some.inj h⟩
    · rw [isd, isd]
      rfl
theorem sp_may {H : Hp} {d : Addr} {ms : Mks} {a b : Nat} (hd : H d = some (.dK (kM ms))) : SpV spMay ([.ref d, .str (sgS a), .str (sgS b)] ++ []) H (.bl (maySw ms a b)) := fun H1 e Q q _ => ⟨d, ms, a, b, rfl, e _ _ hd, q⟩
theorem ok__swapped {f f1 : Addr} {fd fd1 : FuncData} {k : Nat} (F : Fun K "_swapped" "_swapped" s__swapped f fd) (C__put : Cal P w K mg base CX0 k "_put" ["text", "at", "size", "piece"] spPut f1 fd1) : FnOk P w K mg base CX0 (k + 1) f fd ["text", "at"] spSwd := by
  refine F.ok sc__swapped (fun vs H Q E h => ?_) (fun cdv A' outer s H vs Q E hr h => ?_)
  · obtain ⟨l, i, a, b, rfl, _⟩ := h
    rfl
  · obtain ⟨l, i, a, b, rfl, hl, ha, hb, q⟩ := h
    refine ⟨_, (pss_one (ps_ret (pe_call C__put.ok hr (by rfl) C__put.mg C__put.kp C__put.b .nil pass0 (pa_cons (pv 0) (pa_cons (pv 1) (pa_cons pe_int (pa_cons (pe_op op_add_str (pe_ix ix_str (pv 0) (pe_op op_add (pv 1) pe_int) (fun _ _ => rfl)) (pe_ix ix_str (pv 0) (pv 1) (fun _ _ => rfl))) pa_nil))))))), ?_⟩
    refine s_ret (ev_call (ea_cons (ev_var rfl) (ea_cons (ev_var rfl) (ea_cons ev_c (ea_cons (ev_is (ev_addS (ev_ixC (ev_var rfl) (ev_addN (n := 1) (ev_var rfl) ev_c) (by omega) hb) (ev_ixC (ev_var rfl) (ev_var rfl) (by omega) ha) (by show 1 + 1 ≤ 100000; decide)) (show V.str (sgS b ++ sgS a) = V.str (stL [b, a]) by rw [sgS_stL, sgS_stL, stL_app]; rfl)) ea_nil)))) (sp_put (n := 2) hl (by show 2 ≤ 5000; decide))) q
theorem sp_swd {H : Hp} {l : List Nat} {i a b : Nat} (hl : l.length ≤ 5000) (ha : l[i]? = some a) (hb : l[i + 1]? = some b) : SpV spSwd ([.str (stL l), .int (i : Int)] ++ []) H (.str (stL (putL l i 2 [b, a]))) := fun H1 e Q q _ => ⟨l, i, a, b, rfl, hl, ha, hb, q⟩
theorem fall_may {ms : Mks} {a b : Nat} : fall ms a b = (maySw ms a b && decide ((lk ms b).getD 0 < (lk ms a).getD 0)) := by
  unfold fall maySw isM
  cases lk ms a with
  | none => rfl
  | some x =>
    cases lk ms b with
    | none => rfl
    | some y =>
      show decide (y < x) = ((true && (true && !decide (some x = some y))) && decide (y < x))
      by_cases h : y < x
      · have : ¬ (some x = some y) := fun e => by have := Option.some.inj e; omega
        simp [h, this]
      · simp [h]
theorem ok__nearer_to_key {f f1 f2 f3 : Addr} {fd fd1 fd2 fd3 : FuncData} {k : Nat} (F : Fun K "_nearer_to_key" "_nearer_to_key" s__nearer_to_key f fd) (T : Txt K mg) (C__put : Cal P w K mg base CX0 k "_put" ["text", "at", "size", "piece"] spPut f1 fd1)
    (C_may_swap : Cal P w K mg base CX0 k "may_swap" ["marks", "left", "right"] spMay f2 fd2) (C__swapped : Cal P w K mg base CX0 k "_swapped" ["text", "at"] spSwd f3 fd3) : FnOk P w K mg base CX0 (k + 1) f fd ["folds", "marks", "text"] spNear := by
  refine F.ok sc__nearer_to_key (fun vs H Q E h => ?_) (fun cdv A' outer s H vs Q E hr h => ?_)
  · obtain ⟨df, dm, fs, ms, l, rfl, _⟩ := h
    rfl
  · obtain ⟨df, dm, fs, ms, l, rfl, hf, hm, hl1, hl, h3, q⟩ := h
    have hu := hu_of hr
    refine ⟨_, (pss_cons (ps_for PassesOwn.never rfl (pi_enumS (by rfl) T.b_enumerate (pa_cons (pv 2) pa_nil)) (pg_tup (by rfl) (pgs_cons (pg_name (i := 3) sc__nearer_to_key.nd rfl (Or.inl rfl)) (pgs_cons (pg_name (i := 4) sc__nearer_to_key.nd rfl (Or.inl rfl)) pgs_nil))) (pss_one (ps_if (pt_cmp (pc_din hu (pv 4) (pv 0))) (pss_one (ps_ret (pe_call C__put.ok hr (by rfl) C__put.mg C__put.kp C__put.b .nil pass0 (pa_cons (pv 2) (pa_cons (pv 3) (pa_cons pe_int (pa_cons (pe_dget hu (pv 0) (pv 4) (fun _ _ => rfl)) pa_nil))))))) pss_nil)))
      (pss_cons (ps_for PassesOwn.never rfl (pi_range1 (by rfl) T.b_range (pa_cons (pe_op op_sub (pe_callB call_len_str (by rfl) T.b_len PySem.boot_len (pa_cons (pv 2) pa_nil)) pe_int) pa_nil)) (pg_name (i := 3) sc__nearer_to_key.nd rfl (Or.inl rfl)) (pss_one (ps_if (PW.pt (pw_and (pt_val (pe_call C_may_swap.ok hr (by rfl) C_may_swap.mg C_may_swap.kp C_may_swap.b .nil pass0 (pa_cons (pv 1) (pa_cons (pe_ix ix_str (pv 2) (pv 3) (fun _ _ => rfl)) (pa_cons (pe_ix ix_str (pv 2) (pe_op op_add (pv 3) pe_int) (fun _ _ => rfl)) pa_nil))))) (pw_and1 (pt_cmpR op_gt (pe_dget hu (pv 1) (pe_ix ix_str (pv 2) (pv 3) (fun _ _ => rfl)) (fun _ _ => rfl)) (pe_dget hu (pv 1) (pe_ix ix_str (pv 2) (pe_op op_add (pv 3) pe_int) (fun _ _ => rfl)) (fun _ _ => rfl)) (nomark _))))) (pss_one (ps_ret (pe_call C__swapped.ok hr (by rfl) C__swapped.mg C__swapped.kp C__swapped.b .nil pass0 (pa_cons (pv 2) (pa_cons (pv 3) pa_nil))))) pss_nil)))
      (pss_one (ps_ret pe_non)))), ?_⟩
    refine ⟨_, rfl, stL l, rfl, ?_⟩
    refine for_it walk_enumS (fun i σ' G => ∃ y3 y4, σ' = [some (.ref df), some (.ref dm), some (.str (stL l)), y3, y4] ∧ Ex H G ∧ ∀ (j c : Nat), j < i → l[j]? = some c → lk fs c = none) ⟨_, _, rfl, Ex.refl _, fun j c hj _ => absurd hj (Nat.not_lt_zero _)⟩ (fun _ _ _ _ _ => trivial) ?_ ?_
    · rintro i x σ' G G' hi ⟨y3, y4, rfl, eG, hn⟩ hy
      obtain ⟨tp, c, rfl, ntp, rfl, hc⟩ := hy
      have hc' : l[i]? = some c := by rw [← stL_codes l, Array.getElem?_toList]; exact hc
      have e1 := eG.trans (Ex.new (o := .tup [.int (i : Int), .str (sgS c)]) ntp)
      refine ⟨tp, _, rfl, st_of upd_same, rfl, _, _, rfl, _, _, rfl, rfl, ?_⟩
      refine s_when (b := (lk fs c).isSome) (et_is (et_B (ev_din (k := Sum.inr (sgS c)) (ev_var rfl) (ev_var rfl) (e1 _ _ hf))) (by rw [valV_kF]; cases lk fs c <;> rfl)) (fun hb H1 e2 => ?_) (fun hb H1 e2 => ⟨_, _, rfl, e1.trans e2, fun j d hj hd => ?_⟩)
      · obtain ⟨w, hw⟩ := Option.isSome_iff_exists.mp hb
        have lw := h3 _ (lk_mem hw)
        refine s_ret (ev_call (ea_cons (ev_var rfl) (ea_cons (ev_var rfl) (ea_cons ev_c (ea_cons (ev_dget (k := Sum.inr (sgS c)) (v := .str (stL w)) (ev_var rfl) (ev_var rfl) (e2 _ _ (e1 _ _ hf)) (by rw [valV_kF, hw]; rfl)) ea_nil)))) (sp_put (n := 1) hl (by have : w.length ≤ 3 := lw; omega))) fun H2 e3 => ?_
        have hq : nearL fs ms l = some (putL l i 1 w) := by
          unfold nearL
          rw [nearF_at hn hc' hw]
        have q' := q H2 ((e1.trans e2).trans e3)
        rw [hq] at q'
        exact q'
      · by_cases hji : j < i
        · exact hn j d hji hd
        · have : j = i := by omega
          subst this
          rw [hc'] at hd
          cases hd
          cases h9 : lk fs c with
          | none => rfl
          | some z => rw [h9] at hb; cases hb
    · rintro σ' G ⟨y3, y4, rfl, eG, hn⟩
      have nF : nearF fs l = none := nearF_none fun j c hj => hn j c (by
        have := (List.getElem?_eq_some_iff.mp hj).1
        show j < l.toArray.size
        simpa using this) hj
      have hq : nearL fs ms l = nearM ms l := by
        unfold nearL
        rw [nF]
      refine q_forR1 (n := (l.length : Int) - 1) (ea_cons (ev_is (ev_op (ev_lenS (ev_var rfl) (by rw [stL_len]; omega)) ev_c rv_I0) (by rw [stL_len])) ea_nil) (by omega)
        (fun i σ' G' => ∃ y3 y4, σ' = [some (.ref df), some (.ref dm), some (.str (stL l)), y3, y4] ∧ Ex H G' ∧ ∀ (j a b : Nat), j < i → l[j]? = some a → l[j + 1]? = some b → fall ms a b = false) (fun H1 e => ⟨_, _, rfl, eG.trans e, fun j a b hj _ _ => absurd hj (Nat.not_lt_zero _)⟩) ?_ ?_
      · rintro i σ' G1 hi ⟨z3, z4, rfl, e1, hn2⟩
        have ha : l[i]? = some (l[i]'(by omega)) := List.getElem?_eq_getElem _
        have hb : l[i + 1]? = some (l[i + 1]'(by omega)) := List.getElem?_eq_getElem _
        generalize l[i]'(by omega) = a at ha
        generalize l[i + 1]'(by omega) = b at hb
        have ixa : ∀ {G2 : Hp}, Ev (tOp rIxS (tVar 2) (tVar 3)) [some (.ref df), some (.ref dm), some (.str (stL l)), some (.int (i : Int)), z4] G2 (.str (sgS a)) := fun {G2} => ev_ixC (ev_var rfl) (ev_var rfl) (by omega) ha
        have ixb : ∀ {G2 : Hp}, Ev (tOp rIxS (tVar 2) (tOp (rI0 fun i j => .int (i + j)) (tVar 3) (tC (.int 1)))) [some (.ref df), some (.ref dm), some (.str (stL l)), some (.int (i : Int)), z4] G2 (.str (sgS b)) := fun {G2} => ev_ixC (ev_var rfl) (ev_addN (n := 1) (ev_var rfl) ev_c) (by omega) hb
        refine s_when (b := fall ms a b) (et_is (et_and (a := maySw ms a b) (b := decide ((lk ms b).getD 0 < (lk ms a).getD 0)) (et_B (ev_call (ea_cons (ev_var rfl) (ea_cons ixa (ea_cons ixb ea_nil))) (sp_may (e1 _ _ hm)))) fun hmay => ?_) fall_may.symm) (fun hb' G2 e2 => ?_) (fun hb' G2 e2 => ⟨_, _, rfl, e1.trans e2, fun j x y hj hx hy => ?_⟩)
        · obtain ⟨h1, h2⟩ := Bool.and_eq_true_iff.mp hmay
          obtain ⟨h2, _⟩ := Bool.and_eq_true_iff.mp h2
          obtain ⟨x, hx⟩ := Option.isSome_iff_exists.mp h1
          obtain ⟨y, hy⟩ := Option.isSome_iff_exists.mp h2
          refine et_test (ev_is (ev_op (ev_dget (k := Sum.inr (sgS a)) (v := .int x) (ev_var rfl) ixa (e1 _ _ hm) (by rw [valV_kM, hx]; rfl)) (ev_dget (k := Sum.inr (sgS b)) (v := .int y) (ev_var rfl) ixb (e1 _ _ hm) (by rw [valV_kM, hy]; rfl)) rv_I0) ?_)
          rw [hx, hy]
          rfl
        · refine s_ret (ev_call (ea_cons (ev_var rfl) (ea_cons (ev_var rfl) ea_nil)) (sp_swd hl ha hb)) fun G3 e3 => ?_
          have q' := q G3 ((e1.trans e2).trans e3)
          rw [hq, nearM_at hn2 ha hb hb'] at q'
          exact q'
        · by_cases hji : j < i
          · exact hn2 j x y hji hx hy
          · have : j = i := by omega
            subst this
            rw [ha] at hx
            rw [hb] at hy
            cases hx
            cases hy
            exact hb'
      · rintro σ' G1 ⟨z3, z4, rfl, e1, hn2⟩
        refine s_ret ev_c fun G3 e3 => ?_
        have q' := q G3 (e1.trans e3)
        rw [hq, nearM_none fun j a b ha hb => hn2 j a b (by
          have := (List.getElem?_eq_some_iff.mp hb).1
          omega) ha hb] at q'
        exact q'
end
/-! ### single exchanges -/
abbrev s_exchanges : Stmt := top 2
abbrev sc_exchanges_N : List Str := ["table", "word", "folds", "found"]
theorem sc_exchanges : FnScope sc_exchanges_N ["table", "word"] (defScope s_exchanges) := ⟨rfl, rfl, rfl, by decide +kernel, rfl, by decide +kernel, by decide +kernel⟩
abbrev s__with_one_fold : Stmt := top 4
abbrev sc__with_one_fold_N : List Str := ["folds", "text", "at", "sign"]
theorem sc__with_one_fold : FnScope sc__with_one_fold_N ["folds", "text"] (defScope s__with_one_fold) := ⟨rfl, rfl, rfl, by decide +kernel, rfl, by decide +kernel, by decide +kernel⟩
abbrev s__with_one_fold_back : Stmt := top 5
abbrev sc__with_one_fold_back_N : List Str := ["folds", "text", "found", "sign", "word", "at"]
theorem sc__with_one_fold_back : FnScope sc__with_one_fold_back_N ["folds", "text"] (defScope s__with_one_fold_back) := ⟨rfl, rfl, rfl, by decide +kernel, rfl, by decide +kernel, by decide +kernel⟩
abbrev s__with_one_swap : Stmt := top 6
abbrev sc__with_one_swap_N : List Str := ["marks", "text", "at"]
theorem sc__with_one_swap : FnScope sc__with_one_swap_N ["marks", "text"] (defScope s__with_one_swap) := ⟨rfl, rfl, rfl, by decide +kernel, rfl, by decide +kernel, by decide +kernel⟩
theorem ek_prop {C a : Addr} {te : TE} {σ : L2.St} {H : Hp} {fs : Fds} {ms : Mks} (h : Ev te σ H (.ref a)) (ht : TabAt C H a fs ms) : EvK (tProp C (spProp C "_folds") [] E0 te) σ H (kF fs) := fun H1 e Q q =>
  h H1 e _ fun H2 e2 => by
    obtain ⟨dx, p, pm, ha, hp, hpm⟩ := ht.same (e.trans e2)
    exact ⟨a, dx, _, rfl, ha, a, dx, _, p, _, rfl, ha, tabF_f _ _, hp, fun p1 n1 => q p1 _ (fresh_back e2 n1) (e2.trans (Ex.new n1)) upd_same⟩
theorem ek_propM {C a : Addr} {te : TE} {σ : L2.St} {H : Hp} {fs : Fds} {ms : Mks} (h : Ev te σ H (.ref a)) (ht : TabAt C H a fs ms) : EvK (tProp C (spProp C "_marks") [] E0 te) σ H (kM ms) := fun H1 e Q q =>
  h H1 e _ fun H2 e2 => by
    obtain ⟨dx, p, pm, ha, hp, hpm⟩ := ht.same (e.trans e2)
    exact ⟨a, dx, _, rfl, ha, a, dx, _, pm, _, rfl, ha, tabF_m _ _, hpm, fun p1 n1 => q p1 _ (fresh_back e2 n1) (e2.trans (Ex.new n1)) upd_same⟩
def ExF (fs : Fds) (l x : List Nat) : Prop := ∃ (i c : Nat) (w : List Nat), l[i]? = some c ∧ lk fs c = some w ∧ x = putL l i 1 w
def ExB (fs : Fds) (l x : List Nat) : Prop := ∃ (c : Nat) (w : List Nat) (i : Nat), (c, w) ∈ fs ∧ i < l.length ∧ (l.drop i).take w.length = w ∧ x = putL l i w.length [c]
def ExS (ms : Mks) (l x : List Nat) : Prop := ∃ (i a b : Nat), l[i]? = some a ∧ l[i + 1]? = some b ∧ maySw ms a b = true ∧ x = putL l i 2 [b, a]
def Exch (fs : Fds) (ms : Mks) (l x : List Nat) : Prop := ExF fs l x ∨ ExB fs l x ∨ ExS ms l x
/-- a new list of texts, told by what is in it -/
def txs (ws : List (List Nat)) : List V := ws.map fun x => V.str (stL x)
theorem txs_app (a b : List (List Nat)) : txs (a ++ b) = txs a ++ txs b := List.map_append ..
theorem txs_len (ws : List (List Nat)) : (txs ws).length = ws.length := List.length_map ..
theorem txs_str (ws : List (List Nat)) : txs ws = (ws.map stL).map V.str := by unfold txs; rw [List.map_map]; rfl
def RetX (P : List Nat → Prop) (n : Nat) (H : Hp) (Q : VK) : Prop := ∀ p xs H2, H p = none → Ex H H2 → H2 p = some (.lst (txs xs)) → (∀ x, x ∈ xs ↔ P x) → xs.length ≤ n → Q (.ref p) H2
def spOF : Sp := fun vs H Q _ => ∃ d fs l, vs = [.ref d, .str (stL l)] ∧ H d = some (.dK (kF fs)) ∧ l.length ≤ 200 ∧ (∀ p ∈ fs, p.2.length ≤ 3) ∧ RetX (ExF fs l) l.length H Q
def spOB : Sp := fun vs H Q _ => ∃ d fs l, vs = [.ref d, .str (stL l)] ∧ H d = some (.dK (kF fs)) ∧ l.length ≤ 200 ∧ (∀ p ∈ fs, p.2.length ≤ 3) ∧ (fs.map (·.1)).Nodup ∧ fs.length ≤ 40 ∧ RetX (ExB fs l) (fs.length * l.length) H Q
def spOS : Sp := fun vs H Q _ => ∃ d ms l, vs = [.ref d, .str (stL l)] ∧ H d = some (.dK (kM ms)) ∧ 1 ≤ l.length ∧ l.length ≤ 200 ∧ RetX (ExS ms l) l.length H Q
/-- in order, each once -/
def spExch (C : Addr) : Sp := fun vs H Q _ => ∃ a fs ms l, vs = [.ref a, .str (stL l)] ∧ TabAt C H a fs ms ∧ RuleOk fs ms ∧ 1 ≤ l.length ∧ l.length ≤ 60 ∧
  ∀ p (ys : List Str) H2, H p = none → Ex H H2 → H2 p = some (.lst (ys.map V.str)) → ys.Nodup → sortedS ys = true → (∀ z, z ∈ ys ↔ Exch fs ms l z.cps.toList) → ys.length ≤ 4000 → Q (.ref p) H2
theorem cut_mid {l : List Nat} {i n : Nat} (h : i ≤ l.length) : cutS (stL l) (some (i : Int)) (some ((i + n : Nat) : Int)) = stL ((l.drop i).take n) := by
  refine Str.ext' (Array.toList_inj.mp ?_)
  unfold cutS
  rw [stL_len, List.toList_toArray, stL_codes, stL_codes, HT.sIx_nat, HT.sIx_nat, Nat.min_eq_left h]
  by_cases h2 : i + n ≤ l.length
  · rw [Nat.min_eq_left h2, Nat.add_sub_cancel_left]
  · rw [Nat.min_eq_right (by omega), List.take_of_length_le (by rw [List.length_drop]; omega), List.take_of_length_le (by rw [List.length_drop]; omega)]
section
variable {K : Fg} {σ : L2.St} {H : Hp} {te ti tj td ty : TE} {t : TT}
theorem ev_cutMid {l : List Nat} {i n : Nat} (h : Ev te σ H (.str (stL l))) (hi : Ev ti σ H (.int (i : Int))) (hj : Ev tj σ H (.int ((i + n : Nat) : Int))) (hl : i ≤ l.length) (hz : l.length ≤ 100000) : Ev (tSl rSlS te (tPart ti) (tPart tj)) σ H (.str (stL ((l.drop i).take n))) := fun H1 e Q q =>
  h H1 e _ fun H2 e2 => hi H2 (e.trans e2) _ fun H3 e3 => ⟨(i : Int), rfl, hj H3 ((e.trans e2).trans e3) _ fun H4 e4 => ⟨((i + n : Nat) : Int), rfl, stL l, rfl, sz_of (by rw [stL_len]; exact hz), by rw [cut_mid hl]; exact q H4 ((e2.trans e3).trans e4)⟩⟩
/-- d[y] of a dict that may be locked -/
theorem ev_dgetR {a : Addr} {kvs : List (Key × V)} {k : Key} {v : V} (h1 : Ev td σ H (.ref a)) (h2 : Ev ty σ H (kV k)) (hd : Rd H a (.dK kvs)) (hv : valV kvs k = some v) : Ev (tDGet td ty) σ H v := fun H1 e Q q =>
  h1 H1 e _ fun H2 e2 => h2 H2 (e.trans e2) _ fun H3 e3 => ⟨a, v, rfl, .inl ⟨kvs, k, ex_rd ((e.trans e2).trans e3) hd, rfl, hv.symm⟩, q H3 (e2.trans e3)⟩
/-- over the signs of a text with their places -/
theorem el_lcE {ta : TA} {l : List Nat} {i j : Nat} {vs : List Nat} (f : Nat → Nat → Bool) (g : Nat → Nat → V) (h : EvA ta σ H [.str (stL l)]) (hz : l.length ≤ 40000) (hw : ∀ x y, wipe (((wipe σ vs).set i (some x)).set j (some y)) vs = wipe σ vs)
    (ht : ∀ (n c : Nat) H1, Ex H H1 → l[n]? = some c → EvT t (((wipe σ vs).set i (some (.int (n : Int)))).set j (some (.str (sgS c)))) H1 (f n c))
    (he : ∀ (n c : Nat) H1, Ex H H1 → l[n]? = some c → f n c = true → Ev te (((wipe σ vs).set i (some (.int (n : Int)))).set j (some (.str (sgS c)))) H1 (g n c)) :
    EvL (tLc (iEnumS ta) (gTup K 2 (gCons (gName i) (gCons (gName j) gNil))) t te vs) σ H (given l.length (fun n => f n (l.getD n 0)) (fun n => g n (l.getD n 0))) := fun H0 e Q q => h H0 e _ fun H1 e1 => ⟨stL l, rfl, fun Dl hD =>
  lc_it (walk_enumS (z := stL l)) (Cw H1 (fun n => f n (l.getD n 0)) (fun n => g n (l.getD n 0)) Dl) ⟨hD, Ex.new hD, upd_same⟩ (fun _ _ _ _ => trivial) (by
    rintro n x G1 G2 hi p ⟨tp, c, rfl, ntp, rfl, hc⟩
    have hc' : l[n]? = some c := by rw [← stL_codes l, Array.getElem?_toList]; exact hc
    have hn : n < l.length := (List.getElem?_eq_some_iff.mp hc').1
    have gd : l.getD n 0 = c := by rw [List.getD_eq_getElem?_getD, hc']; rfl
    have e3 := Ex.new (o := .tup [.int (n : Int), .str (sgS c)]) ntp
    refine ⟨tp, _, rfl, st_of upd_same, rfl, _, _, rfl, _, _, rfl, rfl, hw _ _, cw_turn (H := H1) (f := fun n => f n (l.getD n 0)) (v := fun n => g n (l.getD n 0)) ⟨p.1, p.2.1.trans e3, e3 _ _ p.2.2⟩ (by omega) ?_ ?_⟩
    · show EvT t _ H1 (f n (l.getD n 0))
      rw [gd]
      exact ht n c H1 (e.trans e1) hc'
    · show f n (l.getD n 0) = true → Ev te _ H1 (g n (l.getD n 0))
      rw [gd]
      exact fun hf => he n c H1 (e.trans e1) hc' hf) (by
    intro G p
    have p : Cw H1 (fun n => f n (l.getD n 0)) (fun n => g n (l.getD n 0)) Dl (stL l).cps.size G := p
    rw [show (stL l).cps.size = l.length from stL_len l] at p
    exact q Dl G (fresh_back e1 p.1) (e1.trans p.2.1) p.2.2)⟩
end
theorem given_txs (n : Nat) (f : Nat → Bool) (v : Nat → List Nat) : given n f (fun i => .str (stL (v i))) = txs (((List.range n).filter f).map v) := by
  unfold given txs
  rw [List.map_map]
  rfl
theorem given_mem {n : Nat} {f : Nat → Bool} {v : Nat → List Nat} {x : List Nat} : x ∈ ((List.range n).filter f).map v ↔ ∃ i, i < n ∧ f i = true ∧ x = v i := by
  rw [List.mem_map]
  constructor
  · rintro ⟨i, hi, rfl⟩
    obtain ⟨h1, h2⟩ := List.mem_filter.mp hi
    exact ⟨i, List.mem_range.mp h1, h2, rfl⟩
  · rintro ⟨i, h1, h2, rfl⟩
    exact ⟨i, List.mem_filter.mpr ⟨List.mem_range.mpr h1, h2⟩, rfl⟩
theorem given_le (n : Nat) (f : Nat → Bool) (v : Nat → List Nat) : (((List.range n).filter f).map v).length ≤ n := by
  rw [List.length_map]
  exact Nat.le_trans (List.length_filter_le ..) (by rw [List.length_range]; exact Nat.le_refl _)
section
variable {P : Program} {w : World} {K : Fg} {mg : Str → Option Value} {base : Heap} {A : TabA}
theorem ok__with_one_fold {f f1 : Addr} {fd fd1 : FuncData} {k : Nat} (F : Fun K "_with_one_fold" "_with_one_fold" s__with_one_fold f fd) (T : Txt K mg) (C__put : Cal P w K mg base CX0 k "_put" ["text", "at", "size", "piece"] spPut f1 fd1) : FnOk P w K mg base CX0 (k + 1) f fd ["folds", "text"] spOF := by
  refine F.ok sc__with_one_fold (fun vs H Q E h => ?_) (fun cdv A' outer s H vs Q E hr h => ?_)
  · obtain ⟨d, fs, l, rfl, _⟩ := h
    rfl
  · obtain ⟨d, fs, l, rfl, hd, hl, h3, q⟩ := h
    have hu := hu_of hr
    refine ⟨_, (pss_one (ps_ret (pe_lc (own := [("at", 2), ("sign", 3)]) (g := gTup K 2 (gCons (gName 2) (gCons (gName 3) gNil)))  rfl sc__with_one_fold.nd (pi_enumS (by rfl) T.b_enumerate (pa_cons (pv 1) pa_nil)) (blkOk_by (own := [("at", 2), ("sign", 3)]) (N := sc__with_one_fold_N) (sc := defScope s__with_one_fold) (by decide +kernel)) (fun _ _ _ _ _ => (pg_tup (by rfl) (pgs_cons (pg_name (i := 2) sc__with_one_fold.nd rfl (Or.inl rfl)) (pgs_cons (pg_name (i := 3) sc__with_one_fold.nd rfl (Or.inl rfl)) pgs_nil)))) (fun _ _ _ _ _ => pts_one (pt_cmp (pc_din hu (pv 3) (pv 0)))) (fun _ _ _ _ _ => (pe_call C__put.ok hr (by rfl) C__put.mg C__put.kp C__put.b .nil pass0 (pa_cons (pv 1) (pa_cons (pv 2) (pa_cons pe_int (pa_cons (pe_dget hu (pv 0) (pv 3) (fun _ _ => rfl)) pa_nil))))))))), ?_⟩
    have lc := el_lcE (K := K) (σ := start sc__with_one_fold_N [.ref d, .str (stL l)]) (H := H) (ta := tCons (tVar 1) tNil) (te := tCall spPut [] E0 (tCons (tVar 1) (tCons (tVar 2) (tCons (tC (.int 1)) (tCons (tDGet (tVar 0) (tVar 3)) tNil))))) (t := tB (tDIn (tVar 3) (tVar 0))) (i := 2) (j := 3) (vs := [2, 3])
      (fun n c => (lk fs c).isSome) (fun n c => .str (stL (putL l n 1 ((lk fs c).getD [])))) (ea_cons (ev_var rfl) ea_nil) (by omega) (fun _ _ => rfl)
      (fun n c H1 e hc => et_is (et_B (ev_din (k := Sum.inr (sgS c)) (ev_var rfl) (ev_var rfl) (e _ _ hd))) (by rw [valV_kF]; cases lk fs c <;> rfl))
      (fun n c H1 e hc hf => by
        obtain ⟨w, hw⟩ := Option.isSome_iff_exists.mp hf
        have lw : w.length ≤ 3 := h3 _ (lk_mem hw)
        rw [hw]
        exact ev_call (ea_cons (ev_var rfl) (ea_cons (ev_var rfl) (ea_cons ev_c (ea_cons (ev_dget (k := Sum.inr (sgS c)) (v := .str (stL w)) (ev_var rfl) (ev_var rfl) (e _ _ hd) (by rw [valV_kF, hw]; rfl)) ea_nil)))) (sp_put (n := 1) (by omega) (by omega)))
    rw [given_txs] at lc
    refine s_retL lc fun p H1 np e hp => q p _ H1 np e hp (fun x => ?_) (given_le ..)
    rw [given_mem]
    constructor
    · rintro ⟨i, hi, hf, rfl⟩
      obtain ⟨w, hw⟩ := Option.isSome_iff_exists.mp hf
      refine ⟨i, l.getD i 0, w, ?_, hw, by rw [hw]; rfl⟩
      rw [List.getD_eq_getElem?_getD, List.getElem?_eq_getElem hi]
      rfl
    · rintro ⟨i, c, w, hc, hw, rfl⟩
      have gd : l.getD i 0 = c := by rw [List.getD_eq_getElem?_getD, hc]; rfl
      refine ⟨i, (List.getElem?_eq_some_iff.mp hc).1, ?_, ?_⟩
      · rw [gd, hw]; rfl
      · rw [gd, hw]; rfl
theorem ok__with_one_swap {f f1 f2 : Addr} {fd fd1 fd2 : FuncData} {k : Nat} (F : Fun K "_with_one_swap" "_with_one_swap" s__with_one_swap f fd) (T : Txt K mg) (C_may_swap : Cal P w K mg base CX0 k "may_swap" ["marks", "left", "right"] spMay f1 fd1) (C__swapped : Cal P w K mg base CX0 k "_swapped" ["text", "at"] spSwd f2 fd2) : FnOk P w K mg base CX0 (k + 1) f fd ["marks", "text"] spOS := by
  refine F.ok sc__with_one_swap (fun vs H Q E h => ?_) (fun cdv A' outer s H vs Q E hr h => ?_)
  · obtain ⟨d, ms, l, rfl, _⟩ := h
    rfl
  · obtain ⟨d, ms, l, rfl, hd, hl1, hl, q⟩ := h
    refine ⟨_, (pss_one (ps_ret (pe_lc (own := [("at", 2)]) (g := gName 2)  rfl sc__with_one_swap.nd (pi_range1 (by rfl) T.b_range (pa_cons (pe_op op_sub (pe_callB call_len_str (by rfl) T.b_len PySem.boot_len (pa_cons (pv 1) pa_nil)) pe_int) pa_nil)) (blkOk_by (own := [("at", 2)]) (N := sc__with_one_swap_N) (sc := defScope s__with_one_swap) (by decide +kernel)) (fun _ _ _ _ _ => (pg_name (i := 2) sc__with_one_swap.nd rfl (Or.inl rfl))) (fun _ _ _ _ _ => pts_one (pt_val (pe_call C_may_swap.ok hr (by rfl) C_may_swap.mg C_may_swap.kp C_may_swap.b .nil pass0 (pa_cons (pv 0) (pa_cons (pe_ix ix_str (pv 1) (pv 2) (fun _ _ => rfl)) (pa_cons (pe_ix ix_str (pv 1) (pe_op op_add (pv 2) pe_int) (fun _ _ => rfl)) pa_nil)))))) (fun _ _ _ _ _ => (pe_call C__swapped.ok hr (by rfl) C__swapped.mg C__swapped.kp C__swapped.b .nil pass0 (pa_cons (pv 1) (pa_cons (pv 2) pa_nil))))))), ?_⟩
    have at1 : ∀ {i : Nat}, (i : Int) < (l.length : Int) - 1 → l[i]? = some (l.getD i 0) ∧ l[i + 1]? = some (l.getD (i + 1) 0) := fun {i} hi => by
      rw [List.getD_eq_getElem?_getD, List.getD_eq_getElem?_getD, List.getElem?_eq_getElem (show i < l.length by omega), List.getElem?_eq_getElem (show i + 1 < l.length by omega)]
      exact ⟨rfl, rfl⟩
    have lc := el_lcR1 (σ := start sc__with_one_swap_N [.ref d, .str (stL l)]) (H := H) (te := tCall spSwd [] E0 (tCons (tVar 1) (tCons (tVar 2) tNil))) (t := tB (tCall spMay [] E0 (tCons (tVar 0) (tCons (tOp rIxS (tVar 1) (tVar 2)) (tCons (tOp rIxS (tVar 1) (tOp (rI0 fun i j => .int (i + j)) (tVar 2) (tC (.int 1)))) tNil))))) (j := 2) (vs := [2]) (n := (l.length : Int) - 1)
      (fun i => maySw ms (l.getD i 0) (l.getD (i + 1) 0)) (fun i => .str (stL (putL l i 2 [l.getD (i + 1) 0, l.getD i 0]))) (ea_cons (ev_is (ev_op (ev_lenS (z := stL l) (ev_var (i := 1) rfl) (by rw [stL_len]; omega)) (ev_c (v := .int 1)) (rv_I0 (g := fun i j => .int (i - j)))) (by rw [stL_len])) ea_nil) (by omega) (fun _ => rfl)
      (fun i H1 e hi => et_B (ev_call (ea_cons (ev_var rfl) (ea_cons (ev_ixC (ev_var rfl) (ev_var rfl) (by omega) (at1 hi).1) (ea_cons (ev_ixC (ev_var rfl) (ev_addN (n := 1) (ev_var rfl) ev_c) (by omega) (at1 hi).2) ea_nil))) (sp_may (e _ _ hd))))
      (fun i H1 e hi _ => ev_call (ea_cons (ev_var rfl) (ea_cons (ev_var rfl) ea_nil)) (sp_swd (by omega) (at1 hi).1 (at1 hi).2))
    rw [given_txs] at lc
    refine s_retL lc fun p H1 np e hp => q p _ H1 np e hp (fun x => ?_) (Nat.le_trans (given_le ..) (by omega))
    rw [given_mem]
    constructor
    · rintro ⟨i, hi, hf, rfl⟩
      have h2 := at1 (i := i) (by omega)
      exact ⟨i, _, _, h2.1, h2.2, hf, rfl⟩
    · rintro ⟨i, a, b, ha, hb, hm, rfl⟩
      have ga : l.getD i 0 = a := by rw [List.getD_eq_getElem?_getD, ha]; rfl
      have gb : l.getD (i + 1) 0 = b := by rw [List.getD_eq_getElem?_getD, hb]; rfl
      have hi := (List.getElem?_eq_some_iff.mp hb).1
      exact ⟨i, by omega, by rw [ga, gb]; exact hm, by rw [ga, gb]⟩
end
end Nm


set_option Elab.async false
set_option linter.all false
set_option maxRecDepth 100000
set_option maxHeartbeats 4000000
namespace Nm
open PySem PySem.Spec PyProof.Rows L2 Evl
/-! ### folds taken back; all exchanges -/
theorem ex_lock {H H1 : Hp} {d : Addr} {o : HO} (e : Ex H H1) : Ex (upd H d o) (upd H1 d o) := fun a u h => by
  by_cases hx : a = d
  · subst hx
    rw [upd_same] at h ⊢
    exact h
  · rw [upd_ne hx] at h ⊢
    exact e _ _ h
theorem ex_open {H G : Hp} {d : Addr} {o u : HO} (hd : H d = some u) (e : Ex (upd H d o) G) : Ex H (upd G d u) := fun a v h => by
  by_cases hx : a = d
  · subst hx
    rw [upd_same, ← hd]
    exact h
  · rw [upd_ne hx]
    exact e a v ((upd_ne hx).trans h)
theorem q_asgD {te : TE} {tz : TS} {D : Ends} {σ : L2.St} {H : Hp} {i : Nat} {kvs : List (Key × V)} (h : EvK te σ H kvs) (k : ∀ p H1, H p = none → Ex H H1 → H1 p = some (.dK kvs) → tz D (σ.set i (some (.ref p))) H1) : tSeq (tAsg te (gName i)) tz D σ H := h H (Ex.refl H) _ fun p H1 n e hp => k p H1 n e hp
/-- a fold's word taken back at a place -/
def BackAt (l : List Nat) (c : Nat) (w : List Nat) (i : Nat) (x : List Nat) : Prop := i < l.length ∧ (l.drop i).take w.length = w ∧ x = putL l i w.length [c]
section
variable {P : Program} {w : World} {K : Fg} {mg : Str → Option Value} {base : Heap} {A : TabA}
theorem ok__with_one_fold_back {f f1 : Addr} {fd fd1 : FuncData} {k : Nat} (F : Fun K "_with_one_fold_back" "_with_one_fold_back" s__with_one_fold_back f fd) (T : Txt K mg) (C__put : Cal P w K mg base CX0 k "_put" ["text", "at", "size", "piece"] spPut f1 fd1) : FnOk P w K mg base CX0 (k + 1) f fd ["folds", "text"] spOB := by
  refine F.ok sc__with_one_fold_back (fun vs H Q E h => ?_) (fun cdv A' outer s H vs Q E hr h => ?_)
  · obtain ⟨d, fs, l, rfl, _⟩ := h
    rfl
  · obtain ⟨d, fs, l, rfl, hd, hl, h3, nd, hf40, q⟩ := h
    have hu := hu_of hr
    refine ⟨_, (pss_cons (ps_set (i := 2) sc__with_one_fold_back.nd rfl (Or.inl rfl) (pe_lstS pa_nil))
      (pss_cons (ps_lock (ps_for PassesOwn.never rfl (pi_keys (pv 0)) (pg_name (i := 3) sc__with_one_fold_back.nd rfl (Or.inl rfl)) (pss_cons (ps_set (i := 4) sc__with_one_fold_back.nd rfl (Or.inl rfl) (pe_dget hu (pv 0) (pv 3) (fun _ _ => rfl)))
      (pss_one (ps_for PassesOwn.never rfl (pi_range1 (by rfl) T.b_range (pa_cons (pe_callB call_len_str (by rfl) T.b_len PySem.boot_len (pa_cons (pv 1) pa_nil)) pa_nil)) (pg_name (i := 5) sc__with_one_fold_back.nd rfl (Or.inl rfl)) (pss_one (ps_if (pt_cmpR op_eq (pe_slice sl_str (pv 1) (po_some (pv 5)) (po_some (pe_op op_add (pv 5) (pe_callB call_len_str (by rfl) T.b_len PySem.boot_len (pa_cons (pv 4) pa_nil))))) (pv 4) (nomark _)) (pss_one (ps_expr (pe_bm PySem.F.plainAttrs_list PySem.F.slot_list_append PySem.F.type_list_append mt_append (pv 2) (pa_cons (pe_call C__put.ok hr (by rfl) C__put.mg C__put.kp C__put.b .nil pass0 (pa_cons (pv 1) (pa_cons (pv 5) (pa_cons (pe_callB call_len_str (by rfl) T.b_len PySem.boot_len (pa_cons (pv 4) pa_nil)) (pa_cons (pv 3) pa_nil))))) pa_nil)))) pss_nil)))))))
      (pss_one (ps_ret (pv 2))))), ?_⟩
    refine q_asgM (em_lst ea_nil (by decide)) fun L H1 nL _ e1 hL => ?_
    have hd1 := e1 _ _ hd
    have neL : L ≠ d := (ne_of_none hd nL).symm
    refine ⟨d, .dK (kF fs), hd1, trivial, fun od => ?_⟩
    refine ⟨_, rfl, d, od, rfl, .inl ⟨kF fs, upd_same, ?_⟩⟩
    have nLb : (upd H d (.frz od (.dK (kF fs)))) L = none := (upd_ne neL).trans nL
    refine for_it walk_keys (fun n σ' G => ∃ y3 y4 y5 xs, σ' = [some (.ref d), some (.str (stL l)), some (.ref L), y3, y4, y5] ∧ Ex (upd H d (.frz od (.dK (kF fs)))) G ∧ G L = some (.lst (txs xs)) ∧
        (∀ x, x ∈ xs ↔ ∃ j c w i, j < n ∧ fs[j]? = some (c, w) ∧ BackAt l c w i x) ∧ xs.length ≤ n * l.length)
      ⟨_, _, _, [], rfl, ex_lock e1, (upd_ne neL).trans hL, fun x => ⟨fun h => absurd h List.not_mem_nil, fun ⟨j, _, _, _, hj, _⟩ => absurd hj (Nat.not_lt_zero _)⟩, Nat.zero_le _⟩ (fun n σ' G _ ⟨_, _, _, _, _, e, _⟩ => e _ _ upd_same) ?_ ?_
    · rintro n x σ' G G' hn ⟨y3, y4, y5, xs, rfl, eG, hG, mem, len⟩ ⟨rfl, ky, vy, hk, rfl⟩
      have hk' : (kF fs)[n]? = some (ky, vy) := hk
      unfold kF at hk'
      rw [List.getElem?_map] at hk'
      obtain ⟨⟨c, w⟩, hcw, ecw⟩ := Option.map_eq_some_iff.mp hk'
      cases ecw
      have hmem : (c, w) ∈ fs := List.mem_of_getElem? hcw
      have hw := lk_of_mem nd hmem
      have lw : w.length ≤ 3 := h3 _ hmem
      have hnf : n < fs.length := (List.getElem?_eq_some_iff.mp hcw).1
      have rd : ∀ {G2 : Hp}, Ex G' G2 → Rd G2 d (.dK (kF fs)) := fun e2 => .inr ⟨od, e2 _ _ (eG _ _ upd_same)⟩
      refine q_asg (ev_dgetR (k := Sum.inr (sgS c)) (v := .str (stL w)) (ev_var rfl) (ev_var rfl) (rd (Ex.refl _)) (by rw [valV_kF, hw]; rfl)) fun G1 e2 => ?_
      have nle : n * l.length ≤ 40 * 200 := Nat.mul_le_mul (by omega) hl
      refine s_forR1 (n := (l.length : Int)) (ea_cons (ev_is (ev_lenS (ev_var rfl) (by rw [stL_len]; omega)) (by rw [stL_len])) ea_nil) (by omega)
        (fun i σ' G2 => ∃ y5 zs, σ' = [some (.ref d), some (.str (stL l)), some (.ref L), some (.str (sgS c)), some (.str (stL w)), y5] ∧ Ex (upd H d (.frz od (.dK (kF fs)))) G2 ∧ G2 L = some (.lst (txs zs)) ∧
          (∀ x, x ∈ zs ↔ (∃ j c w i, j < n ∧ fs[j]? = some (c, w) ∧ BackAt l c w i x) ∨ ∃ i', i' < i ∧ BackAt l c w i' x) ∧ zs.length ≤ n * l.length + i)
        (fun G2 e3 => ⟨_, xs, rfl, (eG.trans e2).trans e3, e3 _ _ (e2 _ _ hG), fun x => (mem x).trans ⟨.inl, fun h => h.resolve_right fun ⟨_, hi, _⟩ => absurd hi (Nat.not_lt_zero _)⟩, len⟩) ?_ ?_
      · rintro i σ' G2 hi ⟨y5, zs, rfl, e4, hz, memz, lenz⟩
        have hi' : i < l.length := by omega
        refine s_when (b := decide ((l.drop i).take w.length = w)) (et_is (et_test (ev_eqS (ev_cutMid (n := w.length) (ev_var rfl) (ev_var rfl) (ev_is (ev_op (ev_var rfl) (ev_lenS (ev_var rfl) (by rw [stL_len]; omega)) rv_I0) (by rw [stL_len, Int.natCast_add])) (by omega) (by omega)) (ev_var rfl))) ?_) (fun hb G3 e5 => ?_) (fun hb G3 e5 => ?_)
        · rw [decide_eq_decide]
          exact ⟨fun h => stL_inj h, fun h => congrArg stL h⟩
        · have hb := of_decide_eq_true hb
          refine s_app (v := .str (stL (putL l i w.length [c]))) (e5 _ _ hz) (ev_var rfl) (ev_call (ea_cons (ev_var rfl) (ea_cons (ev_var rfl) (ea_cons (ev_is (ev_lenS (ev_var rfl) (by rw [stL_len]; omega)) (by rw [stL_len])) (ea_cons (ev_is (ev_var rfl) rfl) ea_nil)))) (sp_put (p := [c]) (by omega) (by show 1 ≤ 5000; decide))) (by rw [txs_len]; omega) fun G4 e6 => ?_
          refine ⟨_, zs ++ [putL l i w.length [c]], rfl, (e4.trans (e5.trans e6)).mut nLb, by rw [upd_same, txs_app]; rfl, fun x => ?_, by rw [List.length_append]; show _ + 1 ≤ _; omega⟩
          rw [List.mem_append, memz, List.mem_singleton]
          constructor
          · rintro ((h | ⟨i', h, b⟩) | rfl)
            · exact .inl h
            · exact .inr ⟨i', by omega, b⟩
            · exact .inr ⟨i, by omega, hi', hb, rfl⟩
          · rintro (h | ⟨i', h, b⟩)
            · exact .inl (.inl h)
            · by_cases e : i' = i
              · subst e
                exact .inr b.2.2
              · exact .inl (.inr ⟨i', by omega, b⟩)
        · have hb := of_decide_eq_false hb
          refine ⟨_, zs, rfl, e4.trans e5, e5 _ _ hz, fun x => (memz x).trans ⟨fun h => h.imp id fun ⟨i', h, b⟩ => ⟨i', by omega, b⟩, fun h => h.imp id fun ⟨i', h, b⟩ => ?_⟩, by omega⟩
          by_cases e : i' = i
          · subst e
            exact absurd b.2.1 hb
          · exact ⟨i', by omega, b⟩
      · rintro σ' G2 ⟨y5, zs, rfl, e4, hz, memz, lenz⟩
        have lenz : zs.length ≤ n * l.length + ((l.length : Int)).toNat := lenz
        refine ⟨_, _, _, zs, rfl, e4, hz, fun x => (memz x).trans ⟨?_, ?_⟩, ?_⟩
        · rintro (⟨j, c', w', i, hj, h⟩ | ⟨i, hi, b⟩)
          · exact ⟨j, c', w', i, by omega, h⟩
          · exact ⟨n, c, w, i, by omega, hcw, b⟩
        · rintro ⟨j, c', w', i, hj, hjf, b⟩
          by_cases e : j = n
          · subst e
            rw [hcw] at hjf
            cases hjf
            exact .inr ⟨i, by have := b.1; omega, b⟩
          · exact .inl ⟨j, c', w', i, by omega, hjf, b⟩
        · rw [Nat.succ_mul]
          omega
    · rintro σ' G ⟨y3, y4, y5, xs, rfl, eG, hG, mem, len⟩
      have kl : (kF fs).length = fs.length := kF_len fs
      refine ⟨eG _ _ upd_same, ?_⟩
      have eo := ex_open hd eG
      refine s_ret (ev_var rfl) fun G1 e2 => q L xs G1 nL (eo.trans e2) (e2 _ _ ((upd_ne neL).trans hG)) (fun x => (mem x).trans ⟨?_, ?_⟩) (by rw [kl] at len; exact len)
      · rintro ⟨j, c, w, i, hj, hjf, b⟩
        exact ⟨c, w, i, List.mem_of_getElem? hjf, b⟩
      · rintro ⟨c, w, i, hm, b⟩
        obtain ⟨j, hj, ej⟩ := List.getElem_of_mem hm
        exact ⟨j, c, w, i, by rw [kl]; exact hj, by rw [List.getElem?_eq_getElem hj, ej], b⟩
theorem ok_exchanges {f f1 f2 f3 : Addr} {fd fd1 fd2 fd3 fd4 fd5 : FuncData} {k : Nat} (F : Fun K "exchanges" "exchanges" s_exchanges f fd) (T : Txt K mg) (TT : TabT K mg A) (C__with_one_fold : Cal P w K mg base CX0 k "_with_one_fold" ["folds", "text"] spOF f1 fd1)
    (C__with_one_fold_back : Cal P w K mg base CX0 k "_with_one_fold_back" ["folds", "text"] spOB f2 fd2) (C__with_one_swap : Cal P w K mg base CX0 k "_with_one_swap" ["marks", "text"] spOS f3 fd3)
    (C_folds : CalM P w K mg base CX0 k ["self"] (spProp A.C "_folds") A.gf fd4) (C_marks : CalM P w K mg base CX0 k ["self"] (spProp A.C "_marks") A.gm fd5) : FnOk P w K mg base CX0 (k + 2) f fd ["table", "word"] (spExch A.C) := by
  refine F.ok sc_exchanges (fun vs H Q E h => ?_) (fun cdv A' outer s H vs Q E hr h => ?_)
  · obtain ⟨a, fs, ms, l, rfl, _⟩ := h
    rfl
  · obtain ⟨a, fs, ms, l, rfl, ht, ro, hl1, hl, q⟩ := h
    have hr1 : Room k _ := hr.mono (by omega)
    refine ⟨_, (pss_cons (ps_set (i := 2) sc_exchanges.nd rfl (Or.inl rfl) (pe_prop (pv 0) TT.cl TT.p_folds C_folds.ok hr C_folds.b .nil pass0 rfl))
      (pss_cons (ps_set (i := 3) sc_exchanges.nd rfl (Or.inl rfl) (pe_op op_cat (pe_call C__with_one_fold.ok hr1 (by rfl) C__with_one_fold.mg C__with_one_fold.kp C__with_one_fold.b .nil pass0 (pa_cons (pv 2) (pa_cons (pv 1) pa_nil))) (pe_call C__with_one_fold_back.ok hr1 (by rfl) C__with_one_fold_back.mg C__with_one_fold_back.kp C__with_one_fold_back.b .nil pass0 (pa_cons (pv 2) (pa_cons (pv 1) pa_nil)))))
      (pss_one (ps_ret (pe_callB (cr_sortX rfl) (by rfl) T.b_sorted (by decide +kernel) (pa_cons (pe_callTy (cr_setX rfl) (by rfl) T.b_set (by decide +kernel) (pa_cons (pe_op op_cat (pv 3) (pe_call C__with_one_swap.ok hr1 (by rfl) C__with_one_swap.mg C__with_one_swap.kp C__with_one_swap.b .nil pass0 (pa_cons (pe_prop (pv 0) TT.cl TT.p_marks C_marks.ok hr C_marks.b .nil pass0 rfl) (pa_cons (pv 1) pa_nil)))) pa_nil)) pa_nil)))))), ?_⟩
    have h3 : ∀ p ∈ fs, p.2.length ≤ 3 := fun p hp => (ro.fw p hp).1.le
    refine q_asgD (ek_prop (ev_var rfl) ht) fun pf H1 nf e1 hf => ?_
    -- found
    refine ⟨_, rfl, _, rfl, pf, fs, l, rfl, hf, by omega, h3, fun p1 x1 H2 n1 e2 hp1 m1 l1 => ?_⟩
    refine ⟨_, rfl, _, rfl, pf, fs, l, rfl, e2 _ _ hf, by omega, h3, ro.fn, ro.fl, fun p2 x2 H3 n2 e3 hp2 m2 l2 => ?_⟩
    have hp1' := e3 _ _ hp1
    have fl := ro.fl
    have b2 : fs.length * l.length ≤ 40 * 60 := Nat.mul_le_mul fl hl
    refine ⟨p1, p2, _, _, rfl, rfl, hp1', hp2, by rw [txs_len, txs_len, sizeLine_eq]; omega, fun p3 n3 => ?_⟩
    have e4 := Ex.new (o := .lst (txs x1 ++ txs x2)) n3
    have e14 := ((e1.trans e2).trans e3).trans e4
    -- sorted(set(..))
    refine ⟨_, rfl, ek_propM (ev_var rfl) ht _ e14 _ fun pm H4 nm e5 hm => ⟨_, rfl, pm, ms, l, rfl, hm, hl1, by omega, fun p4 x4 H5 n4 e6 hp4 m4 l4 => ?_⟩⟩
    have hp3 : H5 p3 = some (.lst (txs x1 ++ txs x2)) := e6 _ _ (e5 _ _ upd_same)
    refine ⟨p3, p4, _, _, rfl, rfl, hp3, hp4, by rw [List.length_append, txs_len, txs_len, txs_len, sizeLine_eq]; omega, fun p5 n5 => ?_⟩
    have e7 := Ex.new (o := .lst (txs x1 ++ txs x2 ++ txs x4)) n5
    refine ⟨p5, ((x1 ++ x2 ++ x4).map stL), rfl, sq_of (by rw [upd_same, ← txs_str, txs_app, txs_app]), by rw [List.length_map, List.length_append, List.length_append]; omega, fun p6 n6 => ?_⟩
    have e8 := Ex.new (o := SetX P w p6 (fun x => decide (x ∈ (x1 ++ x2 ++ x4).map stL)) ((x1 ++ x2 ++ x4).map stL).length) n6
    refine ⟨p6, _, _, rfl, upd_same, by rw [List.length_map, List.length_append, List.length_append]; omega, fun ys p7 y1 y2 y3 y4 n7 => ?_⟩
    have e9 := Ex.new (o := .lst (ys.map V.str)) n7
    have e48 := ((e5.trans e6).trans (e7.trans e8)).trans e9
    refine q p7 ys _ (fresh_back (e14.trans (e5.trans (e6.trans (e7.trans e8)))) n7) (e14.trans e48) upd_same y1 y3 (fun z => ?_) ?_
    · rw [y2, decide_eq_true_eq, List.mem_map]
      constructor
      · rintro ⟨x, hx, rfl⟩
        rw [stL_codes]
        rcases List.mem_append.mp hx with hx | hx
        · rcases List.mem_append.mp hx with hx | hx
          · exact .inl ((m1 x).mp hx)
          · exact .inr (.inl ((m2 x).mp hx))
        · exact .inr (.inr ((m4 x).mp hx))
      · intro h
        refine ⟨z.cps.toList, ?_, stL_of z⟩
        rcases h with h | h | h
        · exact List.mem_append_left _ (List.mem_append_left _ ((m1 _).mpr h))
        · exact List.mem_append_left _ (List.mem_append_right _ ((m2 _).mpr h))
        · exact List.mem_append_right _ ((m4 _).mpr h)
    · rw [List.length_map, List.length_append, List.length_append] at y4
      omega
end
/-! ### the way to the key, ways, papers -/
abbrev s_find_way : Stmt := top 9
abbrev sc_find_way_N : List Str := ["table", "one", "other", "down", "up", "meeting", "text"]
theorem sc_find_way : FnScope sc_find_way_N ["table", "one", "other"] (defScope s_find_way) := ⟨rfl, rfl, rfl, by decide +kernel, rfl, by decide +kernel, by decide +kernel⟩
theorem txs_get {ws : List (List Nat)} {i : Nat} {x : List Nat} (h : ws[i]? = some x) : (txs ws)[i]? = some (.str (stL x)) := by
  unfold txs
  rw [List.getElem?_map, h]
  rfl
theorem txs_of {ws : List (List Nat)} {i : Nat} {v : V} (h : (txs ws)[i]? = some v) : ∃ x, ws[i]? = some x ∧ v = .str (stL x) := by
  unfold txs at h
  rw [List.getElem?_map] at h
  obtain ⟨x, hx, e⟩ := Option.map_eq_some_iff.mp h
  exact ⟨x, hx, e.symm⟩
theorem txs_flat (ws : List (List Nat)) : (txs ws).all flatV = true := by
  unfold txs
  rw [List.all_map, List.all_eq_true]
  intro x _
  rfl
theorem eqV_S (a b : List Nat) : eqV (.str (stL a)) (.str (stL b)) = decide (a = b) := by
  show (stL a == stL b) = _
  by_cases h : a = b
  · rw [decide_eq_true h, h]
    exact beq_self_eq_true _
  · rw [decide_eq_false h]
    exact beq_eq_false_iff_ne.mpr fun e => h (stL_inj e)
theorem txs_in (x : List Nat) (ws : List (List Nat)) : inV (.str (stL x)) (txs ws) = decide (x ∈ ws) := by
  unfold inV txs
  rw [List.any_map]
  by_cases h : x ∈ ws
  · rw [decide_eq_true h, List.any_eq_true]
    exact ⟨x, h, (eqV_S x x).trans (decide_eq_true rfl)⟩
  · rw [decide_eq_false h, List.any_eq_false]
    intro y hy
    intro e
    exact h (of_decide_eq_true ((eqV_S y x).symm.trans e) ▸ hy)
theorem atI_fin {α : Type} (xs : List α) (v : α) : atI (xs ++ [v]) (-1) = some v := by
  unfold atI ixN
  rw [if_neg (by decide), if_pos (by rw [List.length_append]; show -(((xs.length + 1 : Nat)) : Int) ≤ -1; omega)]
  show (xs ++ [v])[((-1 : Int) + ((xs ++ [v]).length : Int)).toNat]? = some v
  rw [List.length_append]
  have e : ((-1 : Int) + ((xs.length + [v].length : Nat) : Int)).toNat = xs.length := by
    show ((-1 : Int) + ((xs.length + 1 : Nat) : Int)).toNat = xs.length
    omega
  rw [e, List.getElem?_append_right (Nat.le_refl _), Nat.sub_self]
  rfl
theorem first_of {α : Type} {x : α} : ∀ {l : List α}, x ∈ l → ∃ j : Nat, l[j]? = some x ∧ ∀ k : Nat, k < j → l[k]? ≠ some x
  | a :: r, h => by
    by_cases e : a = x
    · exact ⟨0, by rw [e]; rfl, fun k hk => absurd hk (Nat.not_lt_zero _)⟩
    · obtain ⟨j, h1, h2⟩ := first_of ((List.mem_cons.mp h).resolve_left fun z => e z.symm)
      refine ⟨j + 1, h1, fun k hk => ?_⟩
      cases k with
      | zero => exact fun z => e (Option.some.inj z)
      | succ k => exact h2 k (by omega)
def wayN (fs : Fds) (ms : Mks) : Nat → List Nat → Option (List (List Nat))
  | 0, _ => none
  | n + 1, l => match nearL fs ms l with
    | none => some [l]
    | some x => (wayN fs ms n x).map (l :: ·)
/-- the first place where p holds -/
def fstI (p : List Nat → Bool) : List (List Nat) → Nat
  | [] => 0
  | x :: r => if p x then 0 else fstI p r + 1
theorem fstI_eq {p : List Nat → Bool} : ∀ {l : List (List Nat)} {i : Nat} {x : List Nat}, l[i]? = some x → p x = true → (∀ (k : Nat) (y : List Nat), k < i → l[k]? = some y → p y = false) → fstI p l = i
  | y :: r, 0, x, h, hp, _ => by
    cases h
    show (if p y = true then 0 else fstI p r + 1) = 0
    rw [if_pos hp]
  | y :: r, i + 1, x, h, hp, hm => by
    show (if p y = true then 0 else fstI p r + 1) = i + 1
    rw [if_neg (by rw [hm 0 y (Nat.succ_pos _) rfl]; exact Bool.false_ne_true), fstI_eq (l := r) h hp fun k z hk hz => hm (k + 1) z (by omega) hz]
/-- two ways put together where the first one first meets the second one -/
def metL (w1 w2 : List (List Nat)) : List (List Nat) := w1.take (fstI (fun m => decide (m ∈ w2)) w1) ++ (w2.take (fstI (fun y => decide (y = w1.getD (fstI (fun m => decide (m ∈ w2)) w1) [])) w2 + 1)).reverse
theorem metL_eq {w1 w2 : List (List Nat)} {i j : Nat} {m : List Nat} (h1 : w1[i]? = some m) (h2 : w2[j]? = some m) (m1 : ∀ (k : Nat) (y : List Nat), k < i → w1[k]? = some y → y ∉ w2) (m2 : ∀ k, k < j → w2[k]? ≠ some m) : metL w1 w2 = w1.take i ++ (w2.take (j + 1)).reverse := by
  have e1 : fstI (fun m => decide (m ∈ w2)) w1 = i := fstI_eq h1 (decide_eq_true (List.mem_of_getElem? h2)) fun k y hk hy => decide_eq_false (m1 k y hk hy)
  unfold metL
  rw [e1]
  have gd : w1.getD i [] = m := by rw [List.getD_eq_getElem?_getD, h1]; rfl
  rw [gd, fstI_eq (p := fun y => decide (y = m)) h2 (decide_eq_true rfl) fun k y hk hy => decide_eq_false fun e => m2 k hk (by rw [hy, e])]
theorem fstI_has {p : List Nat → Bool} : ∀ {l : List (List Nat)}, (∃ x ∈ l, p x = true) → ∃ x, l[fstI p l]? = some x ∧ p x = true
  | [], ⟨_, h, _⟩ => by cases h
  | y :: r, ⟨x, hx, hp⟩ => by
    by_cases h : p y = true
    · exact ⟨y, by show (y :: r)[if p y = true then 0 else fstI p r + 1]? = some y; rw [if_pos h]; rfl, h⟩
    · obtain ⟨z, h1, h2⟩ := fstI_has (p := p) (l := r) ⟨x, (List.mem_cons.mp hx).resolve_left (fun e => h (e ▸ hp)), hp⟩
      exact ⟨z, by show (y :: r)[if p y = true then 0 else fstI p r + 1]? = some z; rw [if_neg h]; exact h1, h2⟩
theorem metL_is {w1 w2 : List (List Nat)} (h : ∃ m ∈ w1, m ∈ w2) : ∃ (i j : Nat) (m : List Nat), w1[i]? = some m ∧ w2[j]? = some m ∧ metL w1 w2 = w1.take i ++ (w2.take (j + 1)).reverse := by
  obtain ⟨m, h1, h2⟩ := h
  obtain ⟨x, a1, a2⟩ := fstI_has (p := fun m => decide (m ∈ w2)) (l := w1) ⟨m, h1, decide_eq_true h2⟩
  have a2 := of_decide_eq_true a2
  obtain ⟨y, b1, b2⟩ := fstI_has (p := fun y => decide (y = x)) (l := w2) ⟨x, a2, decide_eq_true rfl⟩
  have b2 : y = x := of_decide_eq_true b2
  subst b2
  have gd : w1.getD (fstI (fun m => decide (m ∈ w2)) w1) [] = y := by rw [List.getD_eq_getElem?_getD, a1]; rfl
  refine ⟨_, _, y, a1, b1, ?_⟩
  unfold metL
  rw [gd]
theorem first_given {n : Nat} {f : Nat → Bool} {v : Nat → V} : (∃ i, i < n ∧ f i = true) → ∃ i, i < n ∧ f i = true ∧ (∀ k, k < i → f k = false) ∧ (given n f v)[0]? = some (v i) := by
  induction n with
  | zero => rintro ⟨i, hi, _⟩; exact absurd hi (Nat.not_lt_zero _)
  | succ n ih =>
    rintro ⟨i, hi, hf⟩
    have e : given (n + 1) f v = given n f v ++ (if f n = true then [v n] else []) := by
      unfold given
      rw [List.range_succ, List.filter_append, List.map_append]
      by_cases h : f n = true
      · simp [h]
      · simp [h]
    by_cases h : ∃ i, i < n ∧ f i = true
    · obtain ⟨i0, h1, h2, h3, h4⟩ := ih h
      refine ⟨i0, by omega, h2, h3, ?_⟩
      rw [e]
      cases hg : given n f v with
      | nil => rw [hg] at h4; cases h4
      | cons y r => rw [hg] at h4; exact h4
    · have hn : ∀ k, k < n → f k = false := fun k hk => by
        cases hfk : f k with
        | false => rfl
        | true => exact absurd ⟨k, hk, hfk⟩ h
      have hin : i = n := by
        by_cases hlt : i < n
        · exact absurd ⟨i, hlt, hf⟩ h
        · omega
      subst hin
      refine ⟨i, hi, hf, hn, ?_⟩
      have e0 : given i f v = [] := by
        unfold given
        rw [List.filter_eq_nil_iff.mpr fun k hk => by rw [hn k (List.mem_range.mp hk)]; exact Bool.false_ne_true]
        rfl
      rw [e, e0, if_pos hf]
      rfl
structure WayOk (fs : Fds) (ms : Mks) (l : List Nat) (ws : List (List Nat)) : Prop where
  go : ∃ n, wayN fs ms n l = some ws
  sz : ∀ x ∈ ws, 1 ≤ x.length ∧ x.length ≤ 5000
  ln : ws.length ≤ 5000
def spWay (C : Addr) : Sp := fun vs H Q _ => ∃ a fs ms l ws, vs = [.ref a, .str (stL l)] ∧ TabAt C H a fs ms ∧ RuleOk fs ms ∧ WayOk fs ms l ws ∧ RetL (txs ws) H Q
def spFind (C : Addr) : Sp := fun vs H Q _ => ∃ a fs ms l1 l2 d1 x1 d2 x2, vs = [.ref a, .str (stL l1), .str (stL l2)] ∧ TabAt C H a fs ms ∧ RuleOk fs ms ∧ WayOk fs ms l1 (d1 ++ [x1]) ∧ WayOk fs ms l2 (d2 ++ [x2]) ∧
  ((x1 = x2 ∧ ∀ p H2, H p = none → Ex H H2 → H2 p = some (.lst (txs (metL (d1 ++ [x1]) (d2 ++ [x2])))) → Q (.ref p) H2) ∨ (x1 ≠ x2 ∧ RetV .non H Q))
theorem wayN_ne {fs : Fds} {ms : Mks} : ∀ {n : Nat} {l : List Nat} {ws : List (List Nat)}, wayN fs ms n l = some ws → ∃ r, ws = l :: r
  | 0, _, _, h => by cases h
  | n + 1, l, ws, h => by
    unfold wayN at h
    cases hN : nearL fs ms l with
    | none =>
      rw [hN] at h
      exact ⟨[], (Option.some.inj h).symm⟩
    | some x =>
      rw [hN] at h
      obtain ⟨r, _, e⟩ := Option.map_eq_some_iff.mp h
      exact ⟨r, e.symm⟩
theorem cutV_txs {ws : List (List Nat)} {j : Nat} : cutV (txs ws) none (some (j : Int)) = txs (ws.take j) := by
  unfold cutV
  rw [HT.sIx_none, HT.sIx_nat, List.drop_zero, Nat.sub_zero, ← List.take_take, List.take_length]
  unfold txs
  rw [List.map_take]
theorem txs_rev (ws : List (List Nat)) : txs ws.reverse = (txs ws).reverse := by unfold txs; rw [List.map_reverse]
theorem txs_app2 (a b : List (List Nat)) : txs a ++ txs b = txs (a ++ b) := (List.map_append ..).symm
section
variable {P : Program} {w : World} {K : Fg} {mg : Str → Option Value} {base : Heap} {A : TabA}
theorem sp_near {H : Hp} {df dm : Addr} {fs : Fds} {ms : Mks} {l : List Nat} (hf : H df = some (.dK (kF fs))) (hm : H dm = some (.dK (kM ms))) (h1 : 1 ≤ l.length) (h2 : l.length ≤ 5000) (h3 : ∀ p ∈ fs, p.2.length ≤ 3) :
    SpV spNear ([.ref df, .ref dm, .str (stL l)] ++ []) H (optS (nearL fs ms l)) := fun H1 e Q q _ => ⟨df, dm, fs, ms, l, rfl, e _ _ hf, e _ _ hm, h1, h2, h3, q⟩
theorem ok__way_to_key {f f1 : Addr} {fd fd1 fd2 fd3 : FuncData} {k : Nat} (F : Fun K "_way_to_key" "_way_to_key" s__way_to_key f fd) (TT : TabT K mg A) (C__nearer_to_key : Cal P w K mg base CX0 k "_nearer_to_key" ["folds", "marks", "text"] spNear f1 fd1)
    (C_folds : CalM P w K mg base CX0 k ["self"] (spProp A.C "_folds") A.gf fd2) (C_marks : CalM P w K mg base CX0 k ["self"] (spProp A.C "_marks") A.gm fd3) : FnOk P w K mg base CX0 (k + 2) f fd ["table", "word"] (spWay A.C) := by
  refine F.ok sc__way_to_key (fun vs H Q E h => ?_) (fun cdv A' outer s H vs Q E hr h => ?_)
  · obtain ⟨a, fs, ms, l, ws, rfl, _⟩ := h
    rfl
  · obtain ⟨a, fs, ms, l, ws, rfl, ht, ro, wo, q⟩ := h
    have hr1 : Room k _ := hr.mono (by omega)
    refine ⟨_, (pss_cons (ps_set (i := 2) sc__way_to_key.nd rfl (Or.inl rfl) (pe_prop (pv 0) TT.cl TT.p_folds C_folds.ok hr C_folds.b .nil pass0 rfl))
      (pss_cons (ps_set (i := 3) sc__way_to_key.nd rfl (Or.inl rfl) (pe_prop (pv 0) TT.cl TT.p_marks C_marks.ok hr C_marks.b .nil pass0 rfl))
      (pss_cons (ps_set (i := 4) sc__way_to_key.nd rfl (Or.inl rfl) (pe_lstS (pa_cons (pv 1) pa_nil)))
      (pss_cons (ps_whileW PassesOwn.never (ptw_cmp op_notN (pew_named (i := 5) sc__way_to_key.nd rfl (Or.inl rfl) (pew_of (pe_call C__nearer_to_key.ok hr1 (by rfl) C__nearer_to_key.mg C__nearer_to_key.kp C__nearer_to_key.b .nil pass0 (pa_cons (pv 2) (pa_cons (pv 3) (pa_cons (pe_ix ix_list (pv 4) (pe_un un_neg pe_int) (fun _ _ => rfl)) pa_nil)))))) pe_non rfl) (pss_one (ps_expr (pe_bm PySem.F.plainAttrs_list PySem.F.slot_list_append PySem.F.type_list_append mt_append (pv 4) (pa_cons (pv 5) pa_nil)))) pss_nil)
      (pss_one (ps_ret (pv 4))))))), ?_⟩
    obtain ⟨⟨n, hn⟩, sz, ln⟩ := wo
    refine q_asgD (ek_prop (ev_var rfl) ht) fun pf H1 nf e1 hf => q_asgD (ek_propM (ev_var rfl) (ht.same e1)) fun pm H2 nm e2 hm => ?_
    refine q_asgM (em_lst (ea_cons (ev_var rfl) ea_nil) (by show 1 ≤ 100000; decide)) fun pL H3 nL _ e3 hL => ?_
    have hf2 := e2 _ _ hf
    have h3 : ∀ p ∈ fs, p.2.length ≤ 3 := fun p hp => (ro.fw p hp).1.le
    refine ⟨fun m σ' G => ∃ dn cur rest y, σ' = [some (.ref a), some (.str (stL l)), some (.ref pf), some (.ref pm), some (.ref pL), y] ∧ Ex H2 G ∧ G pL = some (.lst (txs (dn ++ [cur]))) ∧ wayN fs ms m cur = some rest ∧ dn ++ rest = ws,
      ⟨n, [], l, ws, _, rfl, e3, hL, hn, rfl⟩, ?_⟩
    rintro m σ' G ⟨dn, cur, rest, y, rfl, eG, hG, hw, hws⟩
    obtain ⟨r, rfl⟩ := wayN_ne hw
    have mem : cur ∈ ws := by rw [← hws]; exact List.mem_append_right _ (List.mem_cons_self ..)
    have hs := sz cur mem
    have hG' : G pL = some (.lst (txs dn ++ [V.str (stL cur)])) := by rw [hG]; unfold txs; rw [List.map_append]; rfl
    refine (ev_call (ea_cons (ev_var rfl) (ea_cons (ev_var rfl) (ea_cons (ev_op (ev_var rfl) (ev_un ev_c ru_neg) (rv_ixL (sq_of hG') (atI_fin _ _))) ea_nil))) (sp_near (eG _ _ hf2) (eG _ _ hm) hs.1 hs.2 h3)) G (Ex.refl G) _ fun G1 e4 => ⟨rfl, _, rfl, ?_⟩
    cases m with
    | zero => cases hw
    | succ m =>
      unfold wayN at hw
      cases hN : nearL fs ms cur with
      | none =>
        rw [hN] at hw
        have e5 : (!decide (optS none = V.non)) = false := by rw [show optS none = V.non from rfl, decide_eq_true rfl]; rfl
        rw [e5, if_neg Bool.false_ne_true]
        show tRet (tVar 4) _ _ _
        refine s_ret (ev_var rfl) fun G2 e6 => ?_
        have hd : dn ++ [cur] = ws := by rw [← hws, ← Option.some.inj hw]
        rw [hd] at hG
        exact q pL G2 (fresh_back (e1.trans e2) nL) (((e1.trans e2).trans eG).trans (e4.trans e6)) (e6 _ _ (e4 _ _ hG))
      | some x =>
        rw [hN] at hw
        obtain ⟨r', hr', e7⟩ := Option.map_eq_some_iff.mp hw
        cases e7
        have e5 : (!decide (optS (some x) = V.non)) = true := by rw [decide_eq_false (fun z => by cases z)]; rfl
        rw [e5, if_pos rfl]
        have lnd : (txs (dn ++ [cur])).length ≤ 5001 := by
          rw [txs_len, List.length_append]
          have := congrArg List.length hws
          rw [List.length_append] at this
          show dn.length + 1 ≤ 5001
          omega
        refine ⟨_, fun σ2 G2 hW => ⟨m, Nat.lt_succ_self m, hW⟩, ?_⟩
        refine s_app (e4 _ _ hG) (ev_var rfl) (ev_var rfl) (by omega) fun G2 e6 => ⟨dn ++ [cur], x, r, _, rfl, (eG.trans (e4.trans e6)).mut nL, ?_, hr', ?_⟩
        · rw [upd_same]
          unfold txs
          rw [List.map_append (l₁ := dn ++ [cur])]
          rfl
        · rw [← hws, List.append_assoc]
          rfl
theorem sl_way {C a : Addr} {H : Hp} {fs : Fds} {ms : Mks} {l : List Nat} {ws : List (List Nat)} (ht : TabAt C H a fs ms) (ro : RuleOk fs ms) (wo : WayOk fs ms l ws) : SpL (spWay C) ([.ref a, .str (stL l)] ++ []) H (txs ws) := fun H1 e Q q _ =>
  ⟨a, fs, ms, l, ws, rfl, ht.same e, ro, wo, q⟩
/-- the place of what is in a list of texts -/
theorem ev_idx {ta te : TE} {σ : L2.St} {H : Hp} {p : Addr} {ws : List (List Nat)} {x : List Nat} {j : Nat} (ha : Ev ta σ H (.ref p)) (hp : H p = some (.lst (txs ws))) (h : Ev te σ H (.str (stL x))) (hj : ws[j]? = some x) (hm : ∀ k, k < j → ws[k]? ≠ some x) :
    Ev (tBM K "list" (rIndex K) ta (tCons te tNil)) σ H (.int (j : Int)) := fun H1 e Q q => ha H1 e _ fun H2 e2 =>
  ⟨Or.inl ⟨rfl, _, sq_of (e2 _ _ (e _ _ hp))⟩, h H2 (e.trans e2) _ fun H3 e3 => ⟨p, txs ws, _, j, _, rfl, rfl, sq_of (e3 _ _ (e2 _ _ (e _ _ hp))), rfl, txs_flat ws, txs_get hj, by rw [eqV_S]; exact decide_eq_true rfl, fun m z hmj hz => by
    obtain ⟨y, hy, rfl⟩ := txs_of hz
    rw [eqV_S]
    exact decide_eq_false fun e9 => hm m hmj (e9 ▸ hy), q H3 (e2.trans e3)⟩⟩
theorem ok_find_way {f f1 : Addr} {fd fd1 : FuncData} {k : Nat} (F : Fun K "find_way" "find_way" s_find_way f fd) (C__way_to_key : Cal P w K mg base CX0 k "_way_to_key" ["table", "word"] (spWay A.C) f1 fd1) : FnOk P w K mg base CX0 (k + 1) f fd ["table", "one", "other"] (spFind A.C) := by
  refine F.ok sc_find_way (fun vs H Q E h => ?_) (fun cdv A' outer s H vs Q E hr h => ?_)
  · obtain ⟨a, fs, ms, l1, l2, d1, x1, d2, x2, rfl, _⟩ := h
    rfl
  · obtain ⟨a, fs, ms, l1, l2, d1, x1, d2, x2, rfl, ht, ro, w1, w2, h⟩ := h
    refine ⟨_, (pss_cons (ps_set (i := 3) sc_find_way.nd rfl (Or.inl rfl) (pe_call C__way_to_key.ok hr (by rfl) C__way_to_key.mg C__way_to_key.kp C__way_to_key.b .nil pass0 (pa_cons (pv 0) (pa_cons (pv 1) pa_nil))))
      (pss_cons (ps_set (i := 4) sc_find_way.nd rfl (Or.inr rfl) (pe_call C__way_to_key.ok hr (by rfl) C__way_to_key.mg C__way_to_key.kp C__way_to_key.b .nil pass0 (pa_cons (pv 0) (pa_cons (pv 2) pa_nil))))
      (pss_cons (ps_if (pt_cmpR op_ne (pe_ix ix_list (pv 3) (pe_un un_neg pe_int) (fun _ _ => rfl)) (pe_ix ix_list (pv 4) (pe_un un_neg pe_int) (fun _ _ => rfl)) (nomark _)) (pss_one (ps_ret pe_non)) pss_nil)
      (pss_cons (ps_set (i := 5) sc_find_way.nd rfl (Or.inl rfl) (pe_ix ix_list (pe_lc (own := [("text", 6)]) (g := gName 6)  rfl sc_find_way.nd (pi_list (pv 3)) (blkOk_by (own := [("text", 6)]) (N := sc_find_way_N) (sc := defScope s_find_way) (by decide +kernel)) (fun _ _ _ _ _ => (pg_name (i := 6) sc_find_way.nd rfl (Or.inl rfl))) (fun _ _ _ _ _ => pts_one (pt_cmpR (show OpR _ (compareOp .In) (rIn K false) from op_in_seq) (pv 6) (pv 4) (by rfl))) (fun _ _ _ _ _ => (pv 6))) pe_int (fun _ _ => rfl)))
      (pss_one (ps_ret (pe_op op_cat (pe_slice sl_list (pv 3) po_none (po_some (pe_bm PySem.F.plainAttrs_list PySem.F.slot_list_index PySem.F.type_list_index mt_index (pv 3) (pa_cons (pv 5) pa_nil)))) (pe_revL (pe_slice sl_list (pv 4) po_none (po_some (pe_op op_add (pe_bm PySem.F.plainAttrs_list PySem.F.slot_list_index PySem.F.type_list_index mt_index (pv 4) (pa_cons (pv 5) pa_nil)) pe_int))))))))))), ?_⟩
    refine q_asgL (el_call (ea_cons (ev_var rfl) (ea_cons (ev_var rfl) ea_nil)) (sl_way ht ro w1)) fun p1 H1 n1 e1 h1 => q_asgL (el_call (ea_cons (ev_var rfl) (ea_cons (ev_var rfl) ea_nil)) (sl_way (ht.same e1) ro w2)) fun p2 H2 n2 e2 h2 => ?_
    have h1' := e2 _ _ h1
    have lst : ∀ (d : List (List Nat)) (x : List Nat), txs (d ++ [x]) = txs d ++ [V.str (stL x)] := fun d x => by unfold txs; rw [List.map_append]; rfl
    have q1 := h1'
    have q2 := h2
    rw [lst] at q1 q2
    refine q_when (b := !decide (x1 = x2)) (et_is (et_test (ev_neS (ev_op (ev_var rfl) (ev_un ev_c ru_neg) (rv_ixL (sq_of q1) (atI_fin _ _))) (ev_op (ev_var rfl) (ev_un ev_c ru_neg) (rv_ixL (sq_of q2) (atI_fin _ _))))) (by
      congr 1
      rw [decide_eq_decide]
      exact ⟨fun e => stL_inj e, fun e => by rw [e]⟩)) (fun hb H3 e3 => ?_) (fun hb H3 e3 => ?_)
    · rcases h with ⟨e, _⟩ | ⟨_, q⟩
      · rw [decide_eq_true e] at hb
        cases hb
      · exact s_ret ev_c fun H4 e4 => q H4 (((e1.trans e2).trans e3).trans e4)
    · rcases h with ⟨rfl, q⟩ | ⟨ne, _⟩
      · have e13 := (e1.trans e2).trans e3
        have g1 := e3 _ _ h1'
        have g2 := e3 _ _ h2
        have last : (d1 ++ [x1])[d1.length]? = some x1 := by rw [List.getElem?_append_right (Nat.le_refl _), Nat.sub_self]; rfl
        let fI : Nat → Bool := fun i => decide ((d1 ++ [x1]).getD i [] ∈ d2 ++ [x1])
        let vI : Nat → V := fun i => .str (stL ((d1 ++ [x1]).getD i []))
        have lc := el_lcL (K := K) (σ := [some (.ref a), some (.str (stL l1)), some (.str (stL l2)), some (.ref p1), some (.ref p2), none, none]) (H := H3) (tl := tVar 3) (te := tVar 6) (t := tTest (tOp (rIn K false) (tVar 6) (tVar 4))) (j := 6) (vs := [6]) fI vI (ev_var rfl) (sq_of g1) (by rw [txs_len]; have := w1.ln; omega) (fun _ => rfl)
          (fun i x H4 e4 hx => by
            obtain ⟨z, hz, rfl⟩ := txs_of hx
            refine et_is (et_test (ev_op (ev_var rfl) (ev_var rfl) (rv_isL (sq_of (e4 _ _ g2)) rfl (txs_flat _)))) ?_
            rw [txs_in]
            show _ = decide ((d1 ++ [x1]).getD i [] ∈ d2 ++ [x1])
            rw [List.getD_eq_getElem?_getD, hz]
            rfl)
          (fun i x H4 e4 hx _ => by
            obtain ⟨z, hz, rfl⟩ := txs_of hx
            refine ev_is (ev_var rfl) ?_
            show _ = V.str (stL ((d1 ++ [x1]).getD i []))
            rw [List.getD_eq_getElem?_getD, hz]
            rfl)
        rw [txs_len] at lc
        have fl : fI d1.length = true := by
          show decide ((d1 ++ [x1]).getD d1.length [] ∈ d2 ++ [x1]) = true
          rw [List.getD_eq_getElem?_getD, last]
          exact decide_eq_true (List.mem_append_right _ (List.mem_singleton.mpr rfl))
        obtain ⟨i0, hi0, hf0, hmin, hg0⟩ := first_given (f := fI) (v := vI) ⟨d1.length, (show d1.length < (d1 ++ [x1]).length by rw [List.length_append]; exact Nat.lt_succ_self _), fl⟩
        obtain ⟨m, hm⟩ : ∃ m, (d1 ++ [x1])[i0]? = some m := ⟨_, List.getElem?_eq_getElem hi0⟩
        have hvm : vI i0 = .str (stL m) := by
          show V.str (stL ((d1 ++ [x1]).getD i0 [])) = _
          rw [List.getD_eq_getElem?_getD, hm]
          rfl
        have hm2 : m ∈ d2 ++ [x1] := by
          have := of_decide_eq_true hf0
          rw [List.getD_eq_getElem?_getD, hm] at this
          exact this
        rw [hvm] at hg0
        refine q_asg (ev_opL1 (z := .str (stL m)) lc (fun _ _ => ev_c) fun p H4 hp _ => rv_ixL (sq_of hp) (atI_nat (j := 0) hg0)) fun H4 e4 => ?_
        obtain ⟨j1, hj1, hk1⟩ := first_of (List.mem_of_getElem? hm)
        obtain ⟨j2, hj2, hk2⟩ := first_of hm2
        have c1 := el_sl (K := K) (σ := [some (.ref a), some (.str (stL l1)), some (.str (stL l2)), some (.ref p1), some (.ref p2), some (.str (stL m)), none]) (te := tVar 3) (ev_var rfl) eo_none (eo_some (ev_idx (K := K) (ta := tVar 3) (te := tVar 5) (ev_var rfl) (e4 _ _ g1) (ev_var rfl) hj1 hk1)) (sq_of (K := K) (e4 _ _ g1))
        have c2 := el_sl (K := K) (σ := [some (.ref a), some (.str (stL l1)), some (.str (stL l2)), some (.ref p1), some (.ref p2), some (.str (stL m)), none]) (te := tVar 4) (ev_var rfl) eo_none (eo_some (ev_addN (n := 1) (ev_idx (K := K) (ta := tVar 4) (te := tVar 5) (ev_var rfl) (e4 _ _ g2) (ev_var rfl) hj2 hk2) ev_c)) (sq_of (K := K) (e4 _ _ g2))
        have len1 : ∀ lo hi, (cutV (txs (d1 ++ [x1])) lo hi).length ≤ 5000 := fun lo hi => by
          unfold cutV
          have := w1.ln
          have h8 := txs_len (d1 ++ [x1])
          rw [List.length_take, List.length_drop]
          omega
        have len2 : ∀ lo hi, (cutV (txs (d2 ++ [x1])) lo hi).length ≤ 5000 := fun lo hi => by
          unfold cutV
          have := w2.ln
          have h8 := txs_len (d2 ++ [x1])
          rw [List.length_take, List.length_drop]
          omega
        refine c1 H4 (Ex.refl _) _ fun a1 H5 _ e5 ha1 => c2 H5 e5 _ fun a2 H6 _ e6 ha2 => ?_
        refine ⟨a2, _, rfl, sq_of ha2, fun a3 n3 => ?_⟩
        have e7 := Ex.new (o := .lst (cutV (txs (d2 ++ [x1])) none (some ((j2 + 1 : Nat) : Int))).reverse) n3
        refine ⟨a1, a3, _, _, rfl, rfl, e7 _ _ (e6 _ _ ha1), upd_same, ?_, fun a4 n4 => ?_⟩
        · rw [List.length_reverse]
          have := len1 none (some ((j1 : Nat) : Int))
          have := len2 none (some ((j2 + 1 : Nat) : Int))
          exact sz_of (by omega)
        · have e17 := ((e13.trans e4).trans (e5.trans e6)).trans e7
          refine q a4 _ (fresh_back e17 n4) (e17.trans (Ex.new n4)) ?_
          rw [upd_same, cutV_txs, cutV_txs, ← txs_rev, txs_app2, metL_eq hj1 hj2 (fun k y hk hy => ?_) hk2]
          have hki : k < i0 := by
            by_cases h : i0 < j1
            · exact absurd hm (hk1 i0 h)
            · omega
          have h5 := hmin k hki
          have gd : (d1 ++ [x1]).getD k [] = y := by rw [List.getD_eq_getElem?_getD, hy]; rfl
          have h5 : decide ((d1 ++ [x1]).getD k [] ∈ d2 ++ [x1]) = false := h5
          rw [gd] at h5
          exact of_decide_eq_false h5
      · rw [decide_eq_false ne] at hb
        cases hb
end
end Nm


set_option Elab.async false
set_option linter.all false
set_option maxRecDepth 100000
set_option maxHeartbeats 4000000
namespace Nm
open PySem PySem.Spec PyProof.Rows L2 Evl
/-! ### where keys part; papers -/
abbrev s__first_difference : Stmt := top 44
abbrev sc__first_difference_N : List Str := ["one", "other", "at"]
theorem sc__first_difference : FnScope sc__first_difference_N ["one", "other"] (defScope s__first_difference) := ⟨rfl, rfl, rfl, by decide +kernel, rfl, by decide +kernel, by decide +kernel⟩
abbrev s_paper : Stmt := top 42
abbrev sc_paper_N : List Str := ["table", "one", "other", "way"]
theorem sc_paper : FnScope sc_paper_N ["table", "one", "other"] (defScope s_paper) := ⟨rfl, rfl, rfl, by decide +kernel, rfl, by decide +kernel, by decide +kernel⟩
theorem passLS {X : Cx} : ∀ σ, PassesAt (L2.CX X.prog X.w) X σ ((fun _ => E0 : L2.St → XK) σ) := fun σ pins H s e s' I c => passL pins σ H s e s' I c
theorem ev_callO {σ : L2.St} {H : Hp} {t : TA} {C a : Addr} {sp : Sp} {E : L2.St → XK} {vs : List V} {z : V} {tf : TE} (hf : Ev tf σ H (.ref a)) (ha : EvA t σ H vs) (hi : ∃ dx fs, H a = some (.ins C dx fs)) (hs : SpV sp (.ref a :: vs) H z) : Ev (tCallOS C sp E tf t) σ H z := fun H1 e Q q =>
  hf H1 e _ fun H2 e2 => ⟨a, rfl, ha H2 (e.trans e2) _ fun H3 e3 => by
    obtain ⟨dx, fs, hi⟩ := hi
    exact ⟨⟨dx, fs, ((e.trans e2).trans e3) _ _ hi⟩, hs H3 ((e.trans e2).trans e3) Q (fun H4 e4 => q H4 ((e2.trans e3).trans e4)) (E σ)⟩⟩
theorem sp_callT {H : Hp} {C CW a : Addr} {fs : Fds} {ms : Mks} {l : List Nat} (ht : TabAt C H a fs ms) (ro : RuleOk fs ms) (wd : Wd l 40) : SpV (spCallT C CW) [.ref a, .str (stL l)] H (.str (stL (keyL fs ms l))) := fun H1 e Q q E =>
  ⟨a, _, fs, ms, rfl, ht.same e, ro, .inl ⟨stL l, rfl, by rw [stL_len]; have := wd.le; omega, fun _ H2 e2 => by rw [stL_codes]; exact q H2 e2, fun h => by rw [show upTo (stL l) 40 = true from upTo_iff.mpr wd] at h; cases h⟩⟩
theorem tab_ins {C a : Addr} {H : Hp} {fs : Fds} {ms : Mks} (h : TabAt C H a fs ms) : ∃ dx gs, H a = some (.ins C dx gs) := by
  obtain ⟨dx, p, q, h, _⟩ := h
  exact ⟨dx, _, h⟩
theorem cut_one {l : List Nat} {i : Nat} : cutS (stL l) (some (i : Int)) (some ((i + 1 : Nat) : Int)) = stL (l[i]?).toList := by
  refine Str.ext' (Array.toList_inj.mp ?_)
  unfold cutS
  rw [stL_len, List.toList_toArray, stL_codes, stL_codes, HT.sIx_nat, HT.sIx_nat]
  by_cases h : i < l.length
  · rw [Nat.min_eq_left (by omega), Nat.min_eq_left (by omega), Nat.add_sub_cancel_left, List.drop_eq_getElem_cons h, List.getElem?_eq_getElem h]
    rfl
  · rw [Nat.min_eq_right (by omega), Nat.min_eq_right (by omega), Nat.sub_self, List.getElem?_eq_none (by omega)]
    rfl
theorem ev_cutOne {te ti tj : TE} {σ : L2.St} {H : Hp} {l : List Nat} {i : Nat} (h : Ev te σ H (.str (stL l))) (hi : Ev ti σ H (.int (i : Int))) (hj : Ev tj σ H (.int ((i + 1 : Nat) : Int))) (hz : l.length ≤ 100000) : Ev (tSl rSlS te (tPart ti) (tPart tj)) σ H (.str (stL (l[i]?).toList)) := fun H1 e Q q =>
  h H1 e _ fun H2 e2 => hi H2 (e.trans e2) _ fun H3 e3 => ⟨(i : Int), rfl, hj H3 ((e.trans e2).trans e3) _ fun H4 e4 => ⟨((i + 1 : Nat) : Int), rfl, stL l, rfl, sz_of (by rw [stL_len]; exact hz), by rw [cut_one]; exact q H4 ((e2.trans e3).trans e4)⟩⟩
theorem opt_list {a b : Option Nat} (h : a.toList = b.toList) : a = b := by
  cases a <;> cases b
  · rfl
  · cases h
  · cases h
  · exact congrArg some (List.cons.inj h).1
theorem ev_notN {te : TE} {σ : L2.St} {H : Hp} {x : V} (h : Ev te σ H x) : Ev (tOp (fun x y H Q => y = V.non ∧ Q (V.bl (!decide (x = V.non))) H) te (tC .non)) σ H (.bl (!decide (x = .non))) := ev_op h ev_c fun H3 e3 Q q => ⟨rfl, q H3 (Ex.refl _)⟩
/-- the first place where two lists differ -/
def Parts (l m : List Nat) (n : Nat) : Prop := (∀ j, j < n → l[j]? = m[j]?) ∧ l[n]? ≠ m[n]?
def spDiff : Sp := fun vs H Q _ => ∃ l m n, vs = [.str (stL l), .str (stL m)] ∧ l.length ≤ 5000 ∧ m.length ≤ 5000 ∧ Parts l m n ∧ RetV (.int (n : Int)) H Q
def spPaper (C : Addr) : Sp := fun vs H Q _ => ∃ a fs ms l1 l2 d1 x1 d2 x2, vs = [.ref a, .str (stL l1), .str (stL l2)] ∧ TabAt C H a fs ms ∧ RuleOk fs ms ∧ WayOk fs ms l1 (d1 ++ [x1]) ∧ WayOk fs ms l2 (d2 ++ [x2]) ∧
  ((x1 = x2 ∧ ∀ t p H2, H t = none → H p = none → t ≠ p → Ex H H2 → H2 t = some (.tup [.str "one", .ref p]) → H2 p = some (.lst (txs (metL (d1 ++ [x1]) (d2 ++ [x2])))) → Q (.ref t) H2) ∨ (x1 ≠ x2 ∧ Wd l1 40 ∧ Wd l2 40 ∧ ∃ n, Parts (keyL fs ms l1) (keyL fs ms l2) n ∧ ∀ t H2, Ex H H2 → H2 t = some (.tup [.str "two", .int (n : Int)]) → Q (.ref t) H2))
section
variable {P : Program} {w : World} {K : Fg} {mg : Str → Option Value} {base : Heap} {A : TabA}
theorem ok__first_difference {f : Addr} {fd : FuncData} {k : Nat} (F : Fun K "_first_difference" "_first_difference" s__first_difference f fd) (T : Txt K mg) : FnOk P w K mg base CX0 (k + 1) f fd ["one", "other"] spDiff := by
  refine F.ok sc__first_difference (fun vs H Q E h => ?_) (fun cdv A' outer s H vs Q E hr h => ?_)
  · obtain ⟨l, m, n, rfl, _⟩ := h
    rfl
  · obtain ⟨l, m, n, rfl, hl, hm, hp, q⟩ := h
    refine ⟨_, (pss_cons (ps_for PassesOwn.never rfl (pi_range1 (by rfl) T.b_range (pa_cons (pe_callB (call_max2 rfl) (by rfl) T.b_max (by decide +kernel) (pa_cons (pe_callB call_len_str (by rfl) T.b_len PySem.boot_len (pa_cons (pv 0) pa_nil)) (pa_cons (pe_callB call_len_str (by rfl) T.b_len PySem.boot_len (pa_cons (pv 1) pa_nil)) pa_nil))) pa_nil)) (pg_name (i := 2) sc__first_difference.nd rfl (Or.inl rfl)) (pss_one (ps_if (pt_cmpR op_ne (pe_slice sl_str (pv 0) (po_some (pv 2)) (po_some (pe_op op_add (pv 2) pe_int))) (pe_slice sl_str (pv 1) (po_some (pv 2)) (po_some (pe_op op_add (pv 2) pe_int))) (nomark _)) (pss_one (ps_ret (pv 2))) pss_nil)))
      (pss_one (ps_ret pe_non))), ?_⟩
    have lt : n < max l.length m.length := by
      by_cases h : n < max l.length m.length
      · exact h
      · exact absurd (by rw [List.getElem?_eq_none (by omega), List.getElem?_eq_none (by omega)]) hp.2
    refine q_forR1 (n := ((max l.length m.length : Nat) : Int)) (ea_cons (ev_is (ev_max2 (ev_lenS (ev_var rfl) (by rw [stL_len]; omega)) (ev_lenS (ev_var rfl) (by rw [stL_len]; omega))) (by
        rw [stL_len, stL_len]
        congr 1
        split <;> omega)) ea_nil) (by omega)
      (fun i σ' G => ∃ y, σ' = [some (.str (stL l)), some (.str (stL m)), y] ∧ Ex H G ∧ i ≤ n) (fun H1 e => ⟨_, rfl, e, Nat.zero_le _⟩) ?_ ?_
    · rintro i σ' G hi ⟨y, rfl, e, hin⟩
      refine s_when (b := !decide (i < n)) (et_is (et_test (ev_neS (ev_cutOne (ev_var rfl) (ev_var rfl) (ev_addN (n := 1) (ev_var rfl) ev_c) (by omega)) (ev_cutOne (ev_var rfl) (ev_var rfl) (ev_addN (n := 1) (ev_var rfl) ev_c) (by omega)))) ?_) (fun hb G1 e1 => ?_) (fun hb G1 e1 => ⟨_, rfl, e.trans e1, ?_⟩)
      · congr 1
        rw [decide_eq_decide]
        constructor
        · intro h
          by_cases h2 : i < n
          · exact h2
          · have : i = n := by omega
            subst this
            exact absurd (opt_list (stL_inj h)) hp.2
        · intro h
          rw [hp.1 i h]
      · have : i = n := by
          by_cases h2 : i < n
          · rw [decide_eq_true h2] at hb
            cases hb
          · omega
        subst this
        exact s_ret (ev_var rfl) fun G2 e2 => q G2 ((e.trans e1).trans e2)
      · by_cases h2 : i < n
        · omega
        · rw [decide_eq_false h2] at hb
          cases hb
    · rintro σ' G ⟨y, rfl, e, hin⟩
      exact absurd hin (by omega)
theorem sp_diff {H : Hp} {l m : List Nat} {n : Nat} (hl : l.length ≤ 5000) (hm : m.length ≤ 5000) (h : Parts l m n) : SpV spDiff ([.str (stL l), .str (stL m)] ++ []) H (.int (n : Int)) := fun H1 e Q q _ => ⟨l, m, n, rfl, hl, hm, h, q⟩
theorem ok_paper {f f1 f2 : Addr} {fd fd1 fd2 fd3 : FuncData} {k : Nat} (F : Fun K "paper" "paper" s_paper f fd) (T : Txt K mg) (TT : TabT K mg A) (C_find_way : Cal P w K mg base CX0 k "find_way" ["table", "one", "other"] (spFind A.C) f1 fd1)
    (C__first_difference : Cal P w K mg base CX0 k "_first_difference" ["one", "other"] spDiff f2 fd2) (C_call : CalM P w K mg base (L2.CX P w) k ["self", "word"] (spCallT A.C A.CW) A.gc fd3) : FnOk P w K mg base CX0 (k + 1) f fd ["table", "one", "other"] (spPaper A.C) := by
  refine F.ok sc_paper (fun vs H Q E h => ?_) (fun cdv A' outer s H vs Q E hr h => ?_)
  · obtain ⟨a, fs, ms, l1, l2, d1, x1, d2, x2, rfl, _⟩ := h
    rfl
  · obtain ⟨a, fs, ms, l1, l2, d1, x1, d2, x2, rfl, ht, ro, w1, w2, h⟩ := h
    refine ⟨_, (pss_cons (ps_set (i := 3) sc_paper.nd rfl (Or.inl rfl) (pe_call C_find_way.ok hr (by rfl) C_find_way.mg C_find_way.kp C_find_way.b .nil pass0 (pa_cons (pv 0) (pa_cons (pv 1) (pa_cons (pv 2) pa_nil)))))
      (pss_cons (ps_if (pt_cmpR op_notN (pv 3) pe_non (nomark _)) (pss_one (ps_ret (pe_tup (pa_cons (pe_gx (by rfl) T.c_ONE) (pa_cons (pv 3) pa_nil))))) pss_nil)
      (pss_one (ps_ret (pe_tup (pa_cons (pe_gx (by rfl) T.c_TWO) (pa_cons (pe_call C__first_difference.ok hr (by rfl) C__first_difference.mg C__first_difference.kp C__first_difference.b .nil pass0 (pa_cons (pe_callOS (E := fun _ => E0) (pv 0) TT.co C_call.r hr passLS (pa_cons (pv 1) pa_nil)) (pa_cons (pe_callOS (E := fun _ => E0) (pv 0) TT.co C_call.r hr passLS (pa_cons (pv 2) pa_nil)) pa_nil))) pa_nil))))))), ?_⟩
    refine ⟨_, rfl, _, rfl, _, rfl, a, fs, ms, l1, l2, d1, x1, d2, x2, rfl, ht, ro, w1, w2, ?_⟩
    rcases h with ⟨e, q⟩ | ⟨ne, k1, k2, n, hp, q⟩
    · refine .inl ⟨e, fun p H2 np e2 hp => ?_⟩
      refine q_when (b := true) (et_is (et_test (ev_notN (ev_var rfl))) (by rw [decide_eq_false (fun z => by cases z)]; rfl)) (fun _ H3 e3 => ?_) (fun z => nomatch z)
      exact eu_tup (ea_cons ev_c (ea_cons (ev_var rfl) ea_nil)) (by show 2 ≤ 100000; decide) H3 (Ex.refl _) _ fun t H4 nt e4 h4 =>
        q t p H4 (fresh_back (e2.trans e3) nt) np (fun z => by rw [z, e3 _ _ hp] at nt; cases nt) ((e2.trans e3).trans e4) h4 (e4 _ _ (e3 _ _ hp))
    · refine .inr ⟨ne, fun H2 e2 => ?_⟩
      refine q_when (b := false) (et_is (et_test (ev_notN (ev_var rfl))) (by rw [decide_eq_true rfl]; rfl)) (fun z => nomatch z) (fun _ H3 e3 => ?_)
      have ht3 := ht.same (e2.trans e3)
      have c1 := (keyL_ok ro k1).1.le
      have c2 := (keyL_ok ro k2).1.le
      refine eu_tup (ea_cons ev_c (ea_cons (ev_call (ea_cons (ev_callO (ev_var rfl) (ea_cons (ev_var rfl) ea_nil) (tab_ins ht3) (sp_callT ht3 ro k1)) (ea_cons (ev_callO (ev_var rfl) (ea_cons (ev_var rfl) ea_nil) (tab_ins ht3) (sp_callT ht3 ro k2)) ea_nil)) (sp_diff (by omega) (by omega) hp)) ea_nil)) (by show 2 ≤ 100000; decide) H3 (Ex.refl _) _ fun t H4 _ e4 h4 => q t H4 ((e2.trans e3).trans e4) h4
end
/-! ### a rule drawn -/
/-- the heap but b -/
def outH (b : Addr) (H : Hp) : Hp := fun x => if x = b then none else H x
theorem outH_b {b : Addr} {H : Hp} : outH b H b = none := if_pos rfl
theorem outH_ne {b x : Addr} {H : Hp} (h : x ≠ b) : outH b H x = H x := if_neg h
theorem outH_same {b : Addr} {H : Hp} : Same (outH b H) H := fun x u e => by
  by_cases h : x = b
  · rw [h, outH_b] at e
    cases e
  · rwa [outH_ne h] at e
theorem Dr.out {b : Addr} {n : Nat} {H : Hp} (h : BagAt H b n) : Dr (outH b H) b n H := ⟨outH_same, outH_b, h⟩
/-- all but b stays -/
def But1 (b : Addr) (H H' : Hp) : Prop := ∀ x u, x ≠ b → H x = some u → H' x = some u
theorem Dr.but {b : Addr} {n : Nat} {H H' : Hp} (d : Dr (outH b H) b n H') : But1 b H H' := fun x u ne e => d.same x u ((outH_ne ne).trans e)
abbrev FKS : Str := "A1B2_Z9"
abbrev FWS : Str := "aabc':^"
abbrev MKS : Str := "':^~"
def FK : List Nat := FKS.cps.toList
structure FsOk (fs : Fds) (n : Nat) : Prop where
  nd : (fs.map (·.1)).Nodup
  ky : ∀ p ∈ fs, p.1 ∈ FK.take n
  wd : ∀ p ∈ fs, 1 ≤ p.2.length ∧ p.2.length ≤ 3 ∧ ∀ c ∈ p.2, c ∈ FWS.cps.toList
structure MsOk (ms : Mks) (n : Nat) : Prop where
  nd : (ms.map (·.1)).Nodup
  ky : ∀ p ∈ ms, p.1 ∈ MKS.cps.toList.take n
  cl : ∀ p ∈ ms, p.2 = 1 ∨ p.2 = 2 ∨ p.2 = 3
theorem fk_facts : FK.all sgn = true ∧ FWS.cps.toList.all (fun c => sgn c && !decide (c ∈ FK)) = true ∧ MKS.cps.toList.all (fun c => sgn c && !decide (c ∈ FK)) = true ∧ FK.length = 7 ∧ MKS.cps.toList.length = 4 ∧ FWS.cps.toList.length = 7 ∧ FK.Nodup ∧ MKS.cps.toList.Nodup := by decide +kernel
theorem nd_len {α : Type} [BEq α] [LawfulBEq α] : ∀ {l m : List α}, l.Nodup → (∀ x ∈ l, x ∈ m) → l.length ≤ m.length
  | [], m, _, _ => Nat.zero_le _
  | a :: l, m, hn, h => by
    obtain ⟨h1, h2⟩ := List.nodup_cons.mp hn
    have ha := h a (List.mem_cons_self ..)
    have ih := nd_len (l := l) (m := m.erase a) h2 fun x hx => (List.mem_erase_of_ne (fun e => h1 (by rw [← e]; exact hx))).mpr (h x (List.mem_cons_of_mem _ hx))
    rw [List.length_erase_of_mem ha] at ih
    have : 0 < m.length := List.length_pos_of_mem ha
    rw [List.length_cons]
    omega
theorem rule_ok {fs : Fds} {ms : Mks} (h1 : FsOk fs 7) (h2 : MsOk ms 4) : RuleOk fs ms ∧ ∀ p ∈ fs, p.1 ∈ FK := by
  obtain ⟨f1, f2, f3, f4, f5, f6, f7, f8⟩ := fk_facts
  rw [List.all_eq_true] at f1 f2 f3
  have hk : ∀ p ∈ fs, p.1 ∈ FK := fun p hp => List.mem_of_mem_take (h1.ky p hp)
  have hn : ∀ c, c ∉ FK → lk fs c = none := fun c hc => lk_none.mpr fun p hp e => hc (by rw [← e]; exact hk p hp)
  have w2 : ∀ c ∈ FWS.cps.toList, sgn c = true ∧ c ∉ FK := fun c hc => by
    have := f2 c hc
    rw [Bool.and_eq_true] at this
    exact ⟨this.1, fun e => by rw [decide_eq_true e] at this; exact absurd this.2 (by decide)⟩
  have w3 : ∀ c ∈ MKS.cps.toList, sgn c = true ∧ c ∉ FK := fun c hc => by
    have := f3 c hc
    rw [Bool.and_eq_true] at this
    exact ⟨this.1, fun e => by rw [decide_eq_true e] at this; exact absurd this.2 (by decide)⟩
  have l1 : fs.length ≤ 7 := by
    have := nd_len (m := FK) h1.nd fun x hx => by
      obtain ⟨p, hp, rfl⟩ := List.mem_map.mp hx
      exact hk p hp
    rw [List.length_map, f4] at this
    exact this
  have l2 : ms.length ≤ 4 := by
    have := nd_len (m := MKS.cps.toList) h2.nd fun x hx => by
      obtain ⟨p, hp, rfl⟩ := List.mem_map.mp hx
      exact List.mem_of_mem_take (h2.ky p hp)
    rw [List.length_map, f5] at this
    exact this
  refine ⟨⟨h1.nd, fun p hp => f1 _ (hk p hp), fun p hp => ⟨⟨(h1.wd p hp).1, (h1.wd p hp).2.1, fun c hc => (w2 c ((h1.wd p hp).2.2 c hc)).1⟩, fun c hc => hn c (w2 c ((h1.wd p hp).2.2 c hc)).2⟩, by omega, h2.nd, fun p hp => ?_, h2.cl, by omega⟩, hk⟩
  have := w3 _ (List.mem_of_mem_take (h2.ky p hp))
  exact ⟨this.1, hn _ this.2⟩
theorem take_succ_mem {l : List Nat} {i c : Nat} (h : l[i]? = some c) : c ∈ l.take (i + 1) := by
  rw [List.take_add_one, h]
  exact List.mem_append_right _ (List.mem_singleton.mpr rfl)
theorem take_up {l : List Nat} {i c : Nat} (h : c ∈ l.take i) : c ∈ l.take (i + 1) := by
  rw [List.take_add_one]
  exact List.mem_append_left _ h
theorem not_take {l : List Nat} {i c : Nat} (hn : l.Nodup) (h : l[i]? = some c) : c ∉ l.take i := fun hm => by
  obtain ⟨h1, e1⟩ := List.getElem?_eq_some_iff.mp h
  obtain ⟨j, hj, e2⟩ := List.mem_take_iff_getElem.mp hm
  have := (List.getElem_inj hn).mp (e2.trans e1.symm)
  omega
theorem nd_snoc2 {l : List Nat} {c : Nat} (hn : l.Nodup) (h : c ∉ l) : (l ++ [c]).Nodup := nd_snoc hn h
theorem FsOk.snoc {fs : Fds} {i c : Nat} {l : List Nat} (h : FsOk fs i) (hc : FK[i]? = some c) (hl : 1 ≤ l.length ∧ l.length ≤ 3 ∧ ∀ d ∈ l, d ∈ FWS.cps.toList) : FsOk (fs ++ [(c, l)]) (i + 1) ∧ lk fs c = none := by
  have hn := not_take fk_facts.2.2.2.2.2.2.1 hc
  have hnk : c ∉ fs.map (·.1) := fun hm => by
    obtain ⟨p, hp, e⟩ := List.mem_map.mp hm
    exact hn (by rw [← e]; exact h.ky p hp)
  refine ⟨⟨by rw [List.map_append]; exact nd_snoc h.nd hnk, fun p hp => ?_, fun p hp => ?_⟩, lk_none.mpr fun p hp e => hnk (List.mem_map.mpr ⟨p, hp, e⟩)⟩
  · rcases List.mem_append.mp hp with q | q
    · exact take_up (h.ky p q)
    · rw [List.mem_singleton.mp q]
      exact take_succ_mem hc
  · rcases List.mem_append.mp hp with q | q
    · exact h.wd p q
    · rw [List.mem_singleton.mp q]
      exact hl
theorem FsOk.skip {fs : Fds} {i : Nat} (h : FsOk fs i) : FsOk fs (i + 1) := ⟨h.nd, fun p hp => take_up (h.ky p hp), h.wd⟩
theorem MsOk.snoc {ms : Mks} {i c : Nat} {x : Int} (h : MsOk ms i) (hc : MKS.cps.toList[i]? = some c) (hx : x = 1 ∨ x = 2 ∨ x = 3) : MsOk (ms ++ [(c, x)]) (i + 1) ∧ lk ms c = none := by
  have hn := not_take fk_facts.2.2.2.2.2.2.2 hc
  have hnk : c ∉ ms.map (·.1) := fun hm => by
    obtain ⟨p, hp, e⟩ := List.mem_map.mp hm
    exact hn (by rw [← e]; exact h.ky p hp)
  refine ⟨⟨by rw [List.map_append]; exact nd_snoc h.nd hnk, fun p hp => ?_, fun p hp => ?_⟩, lk_none.mpr fun p hp e => hnk (List.mem_map.mpr ⟨p, hp, e⟩)⟩
  · rcases List.mem_append.mp hp with q | q
    · exact take_up (h.ky p q)
    · rw [List.mem_singleton.mp q]
      exact take_succ_mem hc
  · rcases List.mem_append.mp hp with q | q
    · exact h.cl p q
    · rw [List.mem_singleton.mp q]
      exact hx
theorem MsOk.skip {ms : Mks} {i : Nat} (h : MsOk ms i) : MsOk ms (i + 1) := ⟨h.nd, fun p hp => take_up (h.ky p hp), h.cl⟩
theorem kF_snoc (fs : Fds) {c : Nat} {l : List Nat} (h : lk fs c = none) : putK (kF fs) (Sum.inr (sgS c)) (.str (stL l)) = kF (fs ++ [(c, l)]) := by
  rw [putK_new _ (by rw [valV_kF, h]; rfl)]
  simp [kF]
theorem kM_snoc (ms : Mks) {c : Nat} {x : Int} (h : lk ms c = none) : putK (kM ms) (Sum.inr (sgS c)) (.int x) = kM (ms ++ [(c, x)]) := by
  rw [putK_new _ (by rw [valV_kM, h]; rfl)]
  simp [kM]
def spRule : Sp := fun vs H Q _ => ∃ (b : Addr) (n : Nat), vs = [.ref b] ∧ BagAt H b n ∧ n ≤ 100000000 ∧
  ∀ t pf pm fs ms H', RuleOk fs ms → (∀ p ∈ fs, p.1 ∈ FK) → t ≠ b → pf ≠ b → pm ≠ b → H' t = some (.tup [.ref pf, .ref pm]) → H' pf = some (.dK (kF fs)) → H' pm = some (.dK (kM ms)) → BagAt H' b (n + 200) → But1 b H H' → Q (.ref t) H'
abbrev s__law_rule : Stmt := top 49
abbrev sc__law_rule_N : List Str := ["_law_bag_here", "_law_folds", "_law_marks", "_law_sign", "_law_k"]
theorem sc__law_rule : FnScope sc__law_rule_N ["_law_bag_here"] (defScope s__law_rule) := ⟨rfl, rfl, rfl, by decide +kernel, rfl, by decide +kernel, by decide +kernel⟩
section
variable {P : Program} {w : World} {K : Fg} {mg : Str → Option Value} {base : Heap}
theorem ok__law_rule {f f1 : Addr} {fd fd1 : FuncData} {k : Nat} (F : Fun K "_law_rule" "_law_rule" s__law_rule f fd) (T : Txt K mg) (C__law_take : Cal P w K mg base CX0 k "_law_take" ["_law_bag_here", "_law_many"] spTake f1 fd1) :
    FnOk P w K mg base CX0 (k + 1) f fd ["_law_bag_here"] spRule := by
  refine F.ok sc__law_rule (fun vs H Q E h => ?_) (fun cdv A outer s H vs Q E hr h => ?_)
  · obtain ⟨b, n, rfl, _⟩ := h
    rfl
  · obtain ⟨b, n, rfl, hB, hn, q⟩ := h
    have hu := hu_of hr
    refine ⟨_, (pss_cons (ps_par (i := 1) (j := 2) (by rfl) sc__law_rule.nd rfl rfl (by decide) rfl rfl (pa_cons pe_dnewK (pa_cons pe_dnewK pa_nil)) (by rfl))
      (pss_cons (ps_for PassesOwn.never rfl (pi_str pe_str) (pg_name (i := 3) sc__law_rule.nd rfl (Or.inl rfl)) (pss_one (ps_if (pt_cmpR op_eq (pe_call C__law_take.ok hr (by rfl) C__law_take.mg C__law_take.kp C__law_take.b .nil pass0 (pa_cons (pv 0) (pa_cons pe_int pa_nil))) pe_int (nomark _)) (pss_one (ps_dput hu (pv 1) (pv 3) (pe_join pe_str (pe_lc (own := [("_law_k", 4)]) (g := gName 4) (tt := tYes) rfl sc__law_rule.nd (pi_range1 (by rfl) T.b_range (pa_cons (pe_ix ix_list (pe_lstS (pa_cons pe_int (pa_cons pe_int (pa_cons pe_int (pa_cons pe_int (pa_cons pe_int pa_nil)))))) (pe_call C__law_take.ok hr (by rfl) C__law_take.mg C__law_take.kp C__law_take.b .nil pass0 (pa_cons (pv 0) (pa_cons pe_int pa_nil))) (fun _ _ => rfl)) pa_nil)) (blkOk_by (own := [("_law_k", 4)]) (N := sc__law_rule_N) (sc := defScope s__law_rule) (by decide +kernel)) (fun _ _ _ _ _ => (pg_name (i := 4) sc__law_rule.nd rfl (Or.inl rfl))) (fun _ _ _ _ _ => pts_nil) (fun _ _ _ _ _ => (pe_ix ix_str pe_str (pe_call C__law_take.ok hr (by rfl) C__law_take.mg C__law_take.kp C__law_take.b .nil pass0 (pa_cons (pv 0) (pa_cons pe_int pa_nil))) (fun _ _ => rfl))))) rfl)) pss_nil)))
      (pss_cons (ps_for PassesOwn.never rfl (pi_str pe_str) (pg_name (i := 3) sc__law_rule.nd rfl (Or.inl rfl)) (pss_one (ps_if (pt_cmpR op_gt (pe_call C__law_take.ok hr (by rfl) C__law_take.mg C__law_take.kp C__law_take.b .nil pass0 (pa_cons (pv 0) (pa_cons pe_int pa_nil))) pe_int (nomark _)) (pss_one (ps_dput hu (pv 2) (pv 3) (pe_op op_add pe_int (pe_call C__law_take.ok hr (by rfl) C__law_take.mg C__law_take.kp C__law_take.b .nil pass0 (pa_cons (pv 0) (pa_cons pe_int pa_nil)))) rfl)) pss_nil)))
      (pss_one (ps_ret (pe_tup (pa_cons (pv 1) (pa_cons (pv 2) pa_nil)))))))), ?_⟩
    have n12 : ∀ {p1 p2 : Addr} {o : HO}, (upd H p1 o) p2 = none → p2 ≠ p1 := fun h e => by rw [e, upd_same] at h; cases h
    refine fun p1 np1 => fun p2 np2 => ⟨_, _, rfl, ?_⟩
    have ne21 := n12 np2
    have np20 : H p2 = none := by rw [upd_ne ne21] at np2; exact np2
    have d0 := Dr.out hB
    have nb1 : p1 ≠ b := d0.ne np1
    have nb2 : p2 ≠ b := d0.ne np20
    have d1 := (d0.mut (p := p1) (o := .dK []) (by rw [outH_ne nb1]; exact np1) nb1).mut (p := p2) (o := .dK []) (by rw [outH_ne nb2]; exact np20) nb2
    have mo1 : outH b H p1 = none := by rw [outH_ne nb1]; exact np1
    have mo2 : outH b H p2 = none := by rw [outH_ne nb2]; exact np20
    -- the folds
    refine ⟨_, rfl, for_it walk_str (fun i σ' H' => ∃ (fs : Fds) (y3 y4 : Option V), σ' = [some (.ref b), some (.ref p1), some (.ref p2), y3, y4] ∧ Dr (outH b H) b (n + 10 * i) H' ∧ H' p1 = some (.dK (kF fs)) ∧ H' p2 = some (.dK []) ∧ FsOk fs i)
      ⟨[], none, none, rfl, d1, (upd_ne ne21.symm).trans upd_same, upd_same, ⟨List.nodup_nil, fun p h => absurd h List.not_mem_nil, fun p h => absurd h List.not_mem_nil⟩⟩ (fun _ _ _ _ _ => trivial) ?_ ?_⟩
    · rintro i x σ' H1 H1' hi ⟨fs, y3, y4, rfl, d, h1, h2, ok⟩ ⟨rfl, c, hc, rfl⟩
      have hi7 : i < 7 := by
        have e : (FKS : Str).cps.size = 7 := by decide +kernel
        rw [← e]
        exact hi
      have hc' : FK[i]? = some c := by unfold FK; rw [Array.getElem?_toList]; exact hc
      refine ⟨_, rfl, b, 2, _, rfl, d.bag, by omega, by decide, by decide, fun r H2 hr0 hr1 hb2 ht2 => ⟨rfl, _, rfl, ite2 (fun _ => ?_) (fun _ => ?_)⟩⟩
      · have d2 := d.take hb2 ht2
        have h12 : H2 p1 = some (.dK (kF fs)) := (ht2 _ nb1).trans h1
        have h22 : H2 p2 = some (.dK []) := (ht2 _ nb2).trans h2
        refine ⟨⟨_, rfl⟩, (by show 5 ≤ sizeLine; decide), fun t nt net => ?_⟩
        have nbt : t ≠ b := d2.ne nt
        have mot : outH b H t = none := d2.free nt
        have d3 := d2.mut (p := t) (o := .lst [.int 1, .int 1, .int 2, .int 2, .int 3]) mot nbt
        refine ⟨_, rfl, b, 5, _, rfl, d3.bag, by omega, by decide, by decide, fun r3 H3 h30 h31 hb3 ht3 => ?_⟩
        have d4 := d3.take hb3 ht3
        have htt : H3 t = some (.lst [.int 1, .int 1, .int 2, .int 2, .int 3]) := (ht3 _ nbt).trans upd_same
        have k1 : ∀ {p : Addr} {o : HO}, p ≠ b → H2 p = some o → H3 p = some o := fun hp e => (ht3 _ hp).trans ((upd_ne (ne_of_none e nt)).trans e)
        obtain ⟨v, hv, hvm⟩ := atI_some (xs := ([.int 1, .int 1, .int 2, .int 2, .int 3] : List V)) h30 h31
        obtain ⟨m, rfl, hm1, hm3⟩ : ∃ m : Nat, v = .int (m : Int) ∧ 1 ≤ m ∧ m ≤ 3 := by
          have all : ∀ v ∈ ([.int 1, .int 1, .int 2, .int 2, .int 3] : List V), ∃ m : Nat, v = .int (m : Int) ∧ 1 ≤ m ∧ m ≤ 3 :=
            List.forall_mem_cons.mpr ⟨⟨1, rfl, by decide, by decide⟩, List.forall_mem_cons.mpr ⟨⟨1, rfl, by decide, by decide⟩, List.forall_mem_cons.mpr ⟨⟨2, rfl, by decide, by decide⟩, List.forall_mem_cons.mpr ⟨⟨2, rfl, by decide, by decide⟩, List.forall_mem_cons.mpr ⟨⟨3, rfl, by decide, by decide⟩, fun _ h => nomatch h⟩⟩⟩⟩⟩
          exact all v hvm
        refine ⟨t, _, r3, _, rfl, rfl, SqL.of htt, hv, (m : Int), rfl, by omega, by omega, fun D nD => ?_⟩
        have nbD : D ≠ b := d4.ne nD
        have moD : outH b H D = none := d4.free nD
        have nD1 : D ≠ p1 := (ne_of_none (k1 nb1 h12) nD).symm
        have nD2 : D ≠ p2 := (ne_of_none (k1 nb2 h22) nD).symm
        refine lc_rng (n := m) (fun j xs G => Dr (outH b H) b (n + 10 * i + 2 + j) G ∧ G p1 = some (.dK (kF fs)) ∧ G p2 = some (.dK []) ∧ ∃ l : List Nat, xs = sgs l ∧ ∀ c ∈ l, c ∈ FWS.cps.toList) (by omega)
          ⟨(d4.mut moD nbD).up (by omega), (upd_ne nD1.symm).trans (k1 nb1 h12), (upd_ne nD2.symm).trans (k1 nb2 h22), [], rfl, fun _ h => absurd h List.not_mem_nil⟩ ?_ ?_
        · rintro j xs G R hj ⟨dG, g1, g2, l, rfl, hl⟩ hlen hGD k
          refine ⟨_, rfl, b, 7, _, rfl, dG.bag, by omega, by decide, by decide, fun r4 G4 h40 h41 hb4 ht4 => ?_⟩
          obtain ⟨c', hc4, hcm⟩ := atI_some (xs := FWS.cps.toList) h40 (by rw [fk_facts.2.2.2.2.2.1]; exact h41)
          have dG4 := dG.take hb4 ht4
          refine ⟨FWS, r4, c', rfl, rfl, (by decide +kernel), hc4, k _ _ ((ht4 D nbD).trans hGD) ⟨(dG4.mut moD nbD).up (by omega), (upd_ne nD1.symm).trans ((ht4 _ nb1).trans g1), (upd_ne nD2.symm).trans ((ht4 _ nb2).trans g2), l ++ [c'], by simp [sgs]; rfl, fun x hx => ?_⟩⟩
          rcases List.mem_append.mp hx with h | h
          · exact hl x h
          · rw [List.mem_singleton.mp h]
            exact hcm
        · rintro xs G hlen hGD ⟨dG, g1, g2, l, rfl, hl⟩
          rw [sgs_len] at hlen
          obtain ⟨ok', hno⟩ := ok.snoc hc' (l := l) ⟨by omega, by omega, hl⟩
          refine ⟨_, D, l.map sgS, rfl, rfl, .inl (SqL.of (by rw [hGD, sgs_strs])), by rw [sum_sgs, emp_str, show (⟨#[]⟩ : Str).length = 0 from rfl]; omega, ?_⟩
          rw [emp_str, join_sgs]
          refine ⟨_, rfl, _, rfl, p1, _, rfl, DPut.k (k := Sum.inr (sgS c)) g1 (by rw [kF_len]; have := nd_len (m := FK) ok.nd (fun x hx => by obtain ⟨p, hp, rfl⟩ := List.mem_map.mp hx; exact List.mem_of_mem_take (ok.ky p hp)); rw [List.length_map, fk_facts.2.2.2.1] at this; rw [sizeLine_eq]; omega), ?_⟩
          rw [kF_snoc fs hno]
          exact ⟨fs ++ [(c, l)], _, _, rfl, (dG.mut mo1 nb1).up (by omega), upd_same, (upd_ne ne21).trans g2, ok'⟩
      · exact ⟨fs, _, _, rfl, (d.take hb2 ht2).up (by omega), (ht2 _ nb1).trans h1, (ht2 _ nb2).trans h2, ok.skip⟩
    · rintro σ' H1 ⟨fs, y3, y4, rfl, d, h1, h2, ok⟩
      have ok7 : FsOk fs 7 := by
        have e : (FKS : Str).cps.size = 7 := by decide +kernel
        rw [← e]
        exact ok
      have d7 : Dr (outH b H) b (n + 70) H1 := by
        have e : (FKS : Str).cps.size = 7 := by decide +kernel
        rw [e] at d
        exact d
      -- the marks
      refine ⟨_, rfl, for_it walk_str (fun i σ' H' => ∃ (ms : Mks) (y3 : Option V), σ' = [some (.ref b), some (.ref p1), some (.ref p2), y3, y4] ∧ Dr (outH b H) b (n + 70 + 10 * i) H' ∧ H' p1 = some (.dK (kF fs)) ∧ H' p2 = some (.dK (kM ms)) ∧ MsOk ms i)
        ⟨[], _, rfl, d7, h1, h2, ⟨List.nodup_nil, fun p h => absurd h List.not_mem_nil, fun p h => absurd h List.not_mem_nil⟩⟩ (fun _ _ _ _ _ => trivial) ?_ ?_⟩
      · rintro i x σ' H2 H2' hi ⟨ms, y3, rfl, d2, g1, g2, okm⟩ ⟨rfl, c, hc, rfl⟩
        have hi4 : i < 4 := by
          have e : (MKS : Str).cps.size = 4 := by decide +kernel
          rw [← e]
          exact hi
        have hc' : MKS.cps.toList[i]? = some c := by rw [Array.getElem?_toList]; exact hc
        refine ⟨_, rfl, b, 3, _, rfl, d2.bag, by omega, by decide, by decide, fun r H3 hr0 hr1 hb3 ht3 => ⟨_, _, rfl, rfl, _, rfl, ite2 (fun _ => ?_) (fun _ => ?_)⟩⟩
        · have d3 := d2.take hb3 ht3
          refine ⟨_, rfl, b, 3, _, rfl, d3.bag, by omega, by decide, by decide, fun r4 H4 h40 h41 hb4 ht4 => ?_⟩
          have d4 := d3.take hb4 ht4
          have f1 : H4 p1 = some (.dK (kF fs)) := (ht4 _ nb1).trans ((ht3 _ nb1).trans g1)
          have f2 : H4 p2 = some (.dK (kM ms)) := (ht4 _ nb2).trans ((ht3 _ nb2).trans g2)
          obtain ⟨okm', hno⟩ := okm.snoc hc' (x := 1 + r4) (by omega)
          refine ⟨_, _, rfl, rfl, _, rfl, _, rfl, p2, _, rfl, DPut.k (k := Sum.inr (sgS c)) f2 (by rw [kM_len]; have := nd_len (m := MKS.cps.toList) okm.nd (fun x hx => by obtain ⟨p, hp, rfl⟩ := List.mem_map.mp hx; exact List.mem_of_mem_take (okm.ky p hp)); rw [List.length_map, fk_facts.2.2.2.2.1] at this; rw [sizeLine_eq]; omega), ?_⟩
          rw [kM_snoc ms hno]
          exact ⟨ms ++ [(c, 1 + r4)], _, rfl, (d4.mut mo2 nb2).up (by omega), (upd_ne ne21.symm).trans f1, upd_same, okm'⟩
        · exact ⟨ms, _, rfl, (d2.take hb3 ht3).up (by omega), (ht3 _ nb1).trans g1, (ht3 _ nb2).trans g2, okm.skip⟩
      · rintro σ' H2 ⟨ms, y3, rfl, d2, g1, g2, okm⟩
        have okm4 : MsOk ms 4 := by
          have e : (MKS : Str).cps.size = 4 := by decide +kernel
          rw [← e]
          exact okm
        have e4 : (MKS : Str).cps.size = 4 := by decide +kernel
        rw [e4] at d2
        obtain ⟨ro, hk⟩ := rule_ok ok7 okm4
        refine ⟨_, rfl, _, rfl, (by show 2 ≤ sizeLine; decide), fun t nt => ?_⟩
        have nbt : t ≠ b := d2.ne nt
        have d3 := d2.mut (p := t) (o := .tup [.ref p1, .ref p2]) (d2.free nt) nbt
        exact q t p1 p2 fs ms _ ro hk nbt nb1 nb2 upd_same ((upd_ne (ne_of_none g1 nt)).trans g1) ((upd_ne (ne_of_none g2 nt)).trans g2) (d3.bag.up (by omega)) d3.but
end
/-! ### a word drawn, a key by neighbours -/
abbrev WSG : Str := "aabc'':^~A1B2_Z9z-"
theorem wsg_facts : WSG.cps.toList.all sgn = true ∧ WSG.cps.toList.length = 18 := by decide +kernel
def spWord : Sp := fun vs H Q _ => ∃ (b : Addr) (m n : Nat), vs = [.ref b, .int (m : Int)] ∧ BagAt H b n ∧ n ≤ 100000000 ∧ 1 ≤ m ∧ m ≤ 1000 ∧
  ∀ l H', Wd l m → BagAt H' b (n + 1 + m) → But1 b H H' → Q (.str (stL l)) H'
abbrev s__law_word : Stmt := top 50
abbrev sc__law_word_N : List Str := ["_law_bag_here", "_law_most", "_law_signs", "_law_k"]
theorem sc__law_word : FnScope sc__law_word_N ["_law_bag_here", "_law_most"] (defScope s__law_word) := ⟨rfl, rfl, rfl, by decide +kernel, rfl, by decide +kernel, by decide +kernel⟩
abbrev s__law_key : Stmt := top 51
abbrev sc__law_key_N : List Str := ["_law_rule_here", "_law_word_here", "_law_folds", "_law_marks", "_law_signs", "_law_is_ready", "_law_sign", "_law_at", "_law_one", "_law_other_here"]
theorem sc__law_key : FnScope sc__law_key_N ["_law_rule_here", "_law_word_here"] (defScope s__law_key) := ⟨rfl, rfl, rfl, by decide +kernel, rfl, by decide +kernel, by decide +kernel⟩
section
variable {P : Program} {w : World} {K : Fg} {mg : Str → Option Value} {base : Heap}
theorem ok__law_word {f f1 : Addr} {fd fd1 : FuncData} {k : Nat} (F : Fun K "_law_word" "_law_word" s__law_word f fd) (T : Txt K mg) (C__law_take : Cal P w K mg base CX0 k "_law_take" ["_law_bag_here", "_law_many"] spTake f1 fd1) :
    FnOk P w K mg base CX0 (k + 1) f fd ["_law_bag_here", "_law_most"] spWord := by
  refine F.ok sc__law_word (fun vs H Q E h => ?_) (fun cdv A outer s H vs Q E hr h => ?_)
  · obtain ⟨b, m, n, rfl, _⟩ := h
    rfl
  · obtain ⟨b, m, n, rfl, hB, hn, hm1, hm2, q⟩ := h
    refine ⟨_, (pss_cons (ps_set (i := 2) sc__law_word.nd rfl (Or.inr rfl) pe_str)
      (pss_one (ps_ret (pe_join pe_str (pe_lc (own := [("_law_k", 3)]) (g := gName 3) (tt := tYes) rfl sc__law_word.nd (pi_range1 (by rfl) T.b_range (pa_cons (pe_op op_add pe_int (pe_call C__law_take.ok hr (by rfl) C__law_take.mg C__law_take.kp C__law_take.b .nil pass0 (pa_cons (pv 0) (pa_cons (pv 1) pa_nil)))) pa_nil)) (blkOk_by (own := [("_law_k", 3)]) (N := sc__law_word_N) (sc := defScope s__law_word) (by decide +kernel)) (fun _ _ _ _ _ => (pg_name (i := 3) sc__law_word.nd rfl (Or.inl rfl))) (fun _ _ _ _ _ => pts_nil) (fun _ _ _ _ _ => (pe_ix ix_str (pv 2) (pe_call C__law_take.ok hr (by rfl) C__law_take.mg C__law_take.kp C__law_take.b .nil pass0 (pa_cons (pv 0) (pa_cons pe_int pa_nil))) (fun _ _ => rfl)))))))), ?_⟩
    have d0 := Dr.out hB
    refine ⟨⟨_, rfl⟩, _, rfl, _, rfl, b, (m : Int), n, rfl, hB, by omega, by omega, by omega, fun r H1 hr0 hr1 hb1 ht1 => ?_⟩
    have d1 := d0.take hb1 ht1
    refine ⟨_, _, rfl, rfl, (1 + r : Int), rfl, by omega, by omega, fun D nD => ?_⟩
    have nbD : D ≠ b := d1.ne nD
    have moD : outH b H D = none := d1.free nD
    have e1 : (1 + r : Int).toNat = r.toNat + 1 := by omega
    rw [e1]
    refine lc_rng (n := r.toNat + 1) (fun j xs G => Dr (outH b H) b (n + 1 + j) G ∧ ∃ l : List Nat, xs = sgs l ∧ ∀ c ∈ l, sgn c = true) (by omega) ⟨d1.mut moD nbD, [], rfl, fun _ h => absurd h List.not_mem_nil⟩ ?_ ?_
    · rintro j xs G R hj ⟨dG, l, rfl, hl⟩ hlen hGD k
      refine ⟨_, rfl, _, rfl, b, 18, _, rfl, dG.bag, by omega, by decide, by decide, fun r4 G4 h40 h41 hb4 ht4 => ?_⟩
      obtain ⟨c', hc4, hcm⟩ := atI_some (xs := WSG.cps.toList) h40 (by rw [wsg_facts.2]; exact h41)
      have dG4 := dG.take hb4 ht4
      refine ⟨WSG, r4, c', rfl, rfl, (by decide +kernel), hc4, k _ _ ((ht4 D nbD).trans hGD) ⟨dG4.mut moD nbD, l ++ [c'], by simp [sgs]; rfl, fun x hx => ?_⟩⟩
      rcases List.mem_append.mp hx with h | h
      · exact hl x h
      · rw [List.mem_singleton.mp h]
        exact List.all_eq_true.mp wsg_facts.1 _ hcm
    · rintro xs G hlen hGD ⟨dG, l, rfl, hl⟩
      rw [sgs_len] at hlen
      refine ⟨_, D, l.map sgS, rfl, rfl, .inl (SqL.of (by rw [hGD, sgs_strs])), by rw [sum_sgs, emp_str, show (⟨#[]⟩ : Str).length = 0 from rfl]; omega, ?_⟩
      rw [emp_str, join_sgs]
      exact q l G ⟨by omega, by omega, hl⟩ (dG.bag.up (by omega)) dG.but
/-- the law's own key -/
def spKey : Sp := fun vs H Q _ => ∃ t pf pm z fs ms, vs = [.ref t, .str z] ∧ H t = some (.tup [.ref pf, .ref pm]) ∧ H pf = some (.dK (kF fs)) ∧ H pm = some (.dK (kM ms)) ∧ RuleOk fs ms ∧ Wd z.cps.toList 100 ∧
  RetV (.str (stL (keyL fs ms z.cps.toList))) H Q
theorem sgs_set (l : List Nat) (i c : Nat) : (sgs l).set i (.str (sgS c)) = sgs (l.set i c) := by simp [sgs, List.map_set]
theorem sgs_get {l : List Nat} {i c : Nat} (h : l[i]? = some c) : (sgs l)[i]? = some (.str (sgS c)) := by simp [sgs, h]
theorem ev_fall {σ : L2.St} {H : Hp} {dm : Addr} {ms : Mks} {a b : Nat} {i3 i8 i9 : Nat} (h3 : σ[i3]? = some (some (.ref dm))) (h8 : σ[i8]? = some (some (.str (sgS a)))) (h9 : σ[i9]? = some (some (.str (sgS b)))) (hd : H dm = some (.dK (kM ms))) :
    EvT (tAnd (tB (tDIn (tVar i8) (tVar i3))) (tAnd (tB (tDIn (tVar i9) (tVar i3))) (tTest (tOp (rI0 fun i j => .bl (decide (j < i))) (tDGet (tVar i3) (tVar i8)) (tDGet (tVar i3) (tVar i9)))))) σ H (fall ms a b) := by
  have d8 : EvT (tB (tDIn (tVar i8) (tVar i3))) σ H (isM ms a) := et_is (et_B (ev_din (k := Sum.inr (sgS a)) (ev_var h3) (ev_var h8) hd)) (by rw [valV_kM]; unfold isM; cases lk ms a <;> rfl)
  have d9 : EvT (tB (tDIn (tVar i9) (tVar i3))) σ H (isM ms b) := et_is (et_B (ev_din (k := Sum.inr (sgS b)) (ev_var h3) (ev_var h9) hd)) (by rw [valV_kM]; unfold isM; cases lk ms b <;> rfl)
  cases ea : lk ms a with
  | none =>
    have e1 : isM ms a = false := by unfold isM; rw [ea]; rfl
    have e2 : fall ms a b = false := by unfold fall; rw [ea]
    rw [e1] at d8
    rw [e2]
    exact et_and (b := false) d8 fun z => nomatch z
  | some x =>
    have e1 : isM ms a = true := by unfold isM; rw [ea]; rfl
    rw [e1] at d8
    cases eb : lk ms b with
    | none =>
      have e3 : isM ms b = false := by unfold isM; rw [eb]; rfl
      have e2 : fall ms a b = false := by unfold fall; rw [ea, eb]
      rw [e3] at d9
      rw [e2]
      exact et_and (b := false) d8 fun _ => et_and (b := false) d9 fun z => nomatch z
    | some y =>
      have e3 : isM ms b = true := by unfold isM; rw [eb]; rfl
      have e2 : fall ms a b = decide (y < x) := by unfold fall; rw [ea, eb]
      rw [e3] at d9
      rw [e2]
      refine et_is (et_and d8 fun _ => et_and d9 fun _ => et_test (ev_op (ev_dget (k := Sum.inr (sgS a)) (v := .int x) (ev_var h3) (ev_var h8) hd (by rw [valV_kM, ea]; rfl)) (ev_dget (k := Sum.inr (sgS b)) (v := .int y) (ev_var h3) (ev_var h9) hd (by rw [valV_kM, eb]; rfl)) rv_I0)) ?_
      rfl
theorem ixN_nat {n i : Nat} (h : i < n) : ixN n (i : Int) = some i := by
  unfold ixN
  rw [if_pos (by omega)]
  simp
  exact h
theorem em_listT {te : TE} {σ : L2.St} {H : Hp} {z : Str} (h : Ev te σ H (.str z)) (hz : z.length ≤ 100000) : EvM (tCB rListT (tCons te tNil)) σ H (sgs z.cps.toList) := fun H1 e Q q =>
  h H1 e _ fun H2 e2 => ⟨z, rfl, hz, fun p np ne => q p _ (fresh_back e2 np) ne (e2.trans (Ex.new np)) upd_same⟩
theorem q_par1 {i j : Nat} {xs : List V} {v : V} {ta tb : TE} {tz : TS} {D : Ends} {σ : L2.St} {H : Hp} (h1 : EvM ta σ H xs) (h2 : ∀ H1, Ex H H1 → Ev tb σ H1 v) (k : ∀ p H1, H p = none → Ex H H1 → H1 p = some (.lst xs) → tz D ((σ.set i (some (.ref p))).set j (some v)) H1) :
    tSeq (tPar i j (tCons ta (tCons tb tNil))) tz D σ H := h1 H (Ex.refl H) _ fun p H1 np _ e hp => h2 H1 e H1 (Ex.refl H1) _ fun H2 e2 => ⟨_, _, rfl, k p H2 np (e.trans e2) (e2 _ _ hp)⟩
theorem q_par2 {i j : Nat} {v y : V} {ta : TA} {tz : TS} {D : Ends} {σ : L2.St} {H : Hp} (h : EvA ta σ H [v, y]) (k : ∀ H1, Ex H H1 → tz D ((σ.set i (some v)).set j (some y)) H1) :
    tSeq (tPar i j ta) tz D σ H := h H (Ex.refl H) _ fun H1 e => ⟨_, _, rfl, k H1 e⟩
theorem ok__law_key {f : Addr} {fd : FuncData} {k : Nat} (F : Fun K "_law_key" "_law_key" s__law_key f fd) (T : Txt K mg) : FnOk P w K mg base CX0 (k + 1) f fd ["_law_rule_here", "_law_word_here"] spKey := by
  refine F.ok sc__law_key (fun vs H Q E h => ?_) (fun cdv A outer s H vs Q E hr h => ?_)
  · obtain ⟨t, pf, pm, z, fs, ms, rfl, _⟩ := h
    rfl
  · obtain ⟨t, pf, pm, z, fs, ms, rfl, ht, hf, hm, ro, wd, q⟩ := h
    have hu := hu_of hr
    refine ⟨_, (pss_cons (ps_asg (pv 0) (pg_tup (by rfl) (pgs_cons (pg_name (i := 2) sc__law_key.nd rfl (Or.inr rfl)) (pgs_cons (pg_name (i := 3) sc__law_key.nd rfl (Or.inl rfl)) pgs_nil))))
      (pss_cons (ps_par (i := 4) (j := 5) (by rfl) sc__law_key.nd rfl rfl (by decide) rfl rfl (pa_cons (pe_callTy (call_listT rfl) (by rfl) T.b_list (by decide +kernel) (pa_cons (pe_join pe_str (pe_lc (own := [("_law_sign", 6)]) (g := gName 6) (tt := tYes) rfl sc__law_key.nd (pi_str (pv 1)) (blkOk_by (own := [("_law_sign", 6)]) (N := sc__law_key_N) (sc := defScope s__law_key) (by decide +kernel)) (fun _ _ _ _ _ => (pg_name (i := 6) sc__law_key.nd rfl (Or.inl rfl))) (fun _ _ _ _ _ => pts_nil) (fun _ _ _ _ _ => (pe_dget2 hu (pv 2) (pv 6) (pv 6) ⟨rfl, rfl, rfl, rfl⟩)))) pa_nil)) (pa_cons pe_bl pa_nil)) (by rfl))
      (pss_cons (ps_while PassesOwn.never (pt_not (pt_val (pv 5))) (pss_cons (ps_set (i := 5) sc__law_key.nd rfl (Or.inl rfl) pe_bl)
      (pss_one (ps_for PassesOwn.never rfl (pi_range1 (by rfl) T.b_range (pa_cons (pe_op op_sub (pe_callB call_len_seq (by rfl) T.b_len PySem.boot_len (pa_cons (pv 4) pa_nil)) pe_int) pa_nil)) (pg_name (i := 7) sc__law_key.nd rfl (Or.inl rfl)) (pss_cons (ps_par (i := 8) (j := 9) (by rfl) sc__law_key.nd rfl rfl (by decide) rfl rfl (pa_cons (pe_ix ix_list (pv 4) (pv 7) (fun _ _ => rfl)) (pa_cons (pe_ix ix_list (pv 4) (pe_op op_add (pv 7) pe_int) (fun _ _ => rfl)) pa_nil)) (by rfl))
      (pss_one (ps_if (PW.pt (pw_and (pt_cmp (pc_din hu (pv 8) (pv 3))) (pw_and (pt_cmp (pc_din hu (pv 9) (pv 3))) (pw_and1 (pt_cmpR op_gt (pe_dget hu (pv 3) (pv 8) (fun _ _ => rfl)) (pe_dget hu (pv 3) (pv 9) (fun _ _ => rfl)) (nomark _)))))) (pss_cons (ps_asg (pe_tup (pa_cons (pv 9) (pa_cons (pv 8) pa_nil))) (pg_tup (by rfl) (pgs_cons (pg_sub (pv 4) (pv 7) set_list) (pgs_cons (pg_sub (pv 4) (pe_op op_add (pv 7) pe_int) set_list) pgs_nil))))
      (pss_one (ps_set (i := 5) sc__law_key.nd rfl (Or.inl rfl) pe_bl))) pss_nil)))))))
      (pss_one (ps_ret (pe_join pe_str (pv 4))))))), ?_⟩
    have hl0 : (foldL fs z.cps.toList).length ≤ 3 * z.cps.toList.length := foldL_len fun c hc => (foldC_ok ro (wd.sg c hc)).1.le
    have hl1 := foldL_ge ro wd.sg
    have wle := wd.le
    have wge := wd.ge
    refine ⟨_, rfl, t, _, rfl, st_of ht, rfl, _, _, rfl, _, _, rfl, rfl, ?_⟩
    -- signs, ready
    have lc := el_lcS (t := tYes) (σ := [some (.ref t), some (.str z), some (.ref pf), some (.ref pm), none, none, none, none, none, none]) (H := H) (j := 6) (vs := [6]) (te := tVar 1) (ta := tDGet2 (tVar 2) (tVar 6) (tVar 6)) (fun _ => true) (fun c => .str (stL (foldC fs c))) (ev_var rfl) (by rw [len_str]; omega) (fun _ => rfl) (fun _ _ _ _ => et_yes) fun c H2 e3 m _ =>
      ev_is (ev_dget2 (k := Sum.inr (sgS c)) (ev_var rfl) (ev_var rfl) (ev_var rfl) (e3 _ _ hf)) (by rw [valV_kF]; unfold foldC; cases lk fs c <;> rfl)
    rw [List.filter_eq_self.mpr fun _ _ => rfl] at lc
    have lj := ev_joinS (K := K) (ta := tC (.str (Str.ofString ""))) (ls := z.cps.toList.map (foldC fs)) (ev_is ev_c (by rw [emp_str])) (by rw [List.map_map]; exact lc) (by show (foldL fs z.cps.toList).length ≤ _; omega)
    refine q_par1 (em_listT lj (by rw [stL_len]; show (foldL fs z.cps.toList).length ≤ _; omega)) (fun _ _ => ev_c) fun p H1 np e1 hp1 => ?_
    rw [stL_codes] at hp1
    have hp1 : H1 p = some (.lst (sgs (foldL fs z.cps.toList))) := hp1
    generalize hL0 : foldL fs z.cps.toList = l0 at *
    have kq : keyL fs ms z.cps.toList = ordL ms l0 [] := by unfold keyL; rw [hL0]
    refine q_while (fun m σ' H' => ∃ (l : List Nat) (rb : Bool) (y6 y7 y8 y9 : Option V), σ' = [some (.ref t), some (.str z), some (.ref pf), some (.ref pm), some (.ref p), some (.bl rb), y6, y7, y8, y9] ∧ Ex H H' ∧ H' p = some (.lst (sgs l)) ∧
      ordL ms l [] = ordL ms l0 [] ∧ l.length = l0.length ∧ (rb = true → still ms l) ∧ m = 2 * falls ms l + (if rb = true then 0 else 1)) (2 * falls ms l0 + 1) ⟨l0, false, none, none, none, none, rfl, e1, hp1, rfl, rfl, (fun z => absurd z Bool.false_ne_true), rfl⟩ ?_
    rintro m σ' H2 ⟨l, rb, y6, y7, y8, y9, rfl, e2, hp, ho, hlen, hst, rfl⟩
    refine ⟨!rb, et_not (et_B (ev_var rfl)), fun hb H3 e3 => ?_, fun hb H3 e3 => ?_⟩
    · have hrb : rb = false := by cases rb <;> first | rfl | cases hb
      subst hrb
      refine ⟨fun σ2 H2' => ∃ m', m' < 2 * falls ms l + 1 ∧ ∃ (l : List Nat) (rb : Bool) (y6 y7 y8 y9 : Option V), σ2 = [some (.ref t), some (.str z), some (.ref pf), some (.ref pm), some (.ref p), some (.bl rb), y6, y7, y8, y9] ∧ Ex H H2' ∧ H2' p = some (.lst (sgs l)) ∧
        ordL ms l [] = ordL ms l0 [] ∧ l.length = l0.length ∧ (rb = true → still ms l) ∧ m' = 2 * falls ms l + (if rb = true then 0 else 1), fun _ _ h => h, ?_⟩
      refine q_asg ev_c fun H4 e4 => ?_
      have hp4 : H4 p = some (.lst (sgs l)) := e4 _ _ (e3 _ _ hp)
      refine s_forR1 (n := (l.length : Int) - 1) (ea_cons (ev_is (ev_op (ev_lenL (ev_var rfl) (sq_of hp4)) ev_c rv_I0) (by rw [sgs_len])) ea_nil) (by omega)
        (fun i σ' H' => ∃ (l' : List Nat) (rb : Bool) (y6 y7 y8 y9 : Option V), σ' = [some (.ref t), some (.str z), some (.ref pf), some (.ref pm), some (.ref p), some (.bl rb), y6, y7, y8, y9] ∧ Ex H H' ∧ H' p = some (.lst (sgs l')) ∧
          ordL ms l' [] = ordL ms l0 [] ∧ l'.length = l0.length ∧ (rb = true → l' = l ∧ ∀ j, j < i → ∀ a b, l[j]? = some a → l[j + 1]? = some b → fall ms a b = false) ∧ (rb = false → falls ms l' < falls ms l))
        (fun H5 e5 => ⟨l, true, y6, y7, y8, y9, rfl, ((e2.trans e3).trans e4).trans e5, e5 _ _ hp4, ho, hlen, fun _ => ⟨rfl, fun j hj => absurd hj (Nat.not_lt_zero j)⟩, fun z => nomatch z⟩) ?_ ?_
      · rintro i σ' H5 hi ⟨l', rb, y6, y7, y8, y9, rfl, e5, hp5, ho', hlen', h1, h2⟩
        have hi1 : i + 1 < l'.length := by omega
        obtain ⟨a, ha⟩ : ∃ a, l'[i]? = some a := ⟨_, List.getElem?_eq_getElem (by omega)⟩
        obtain ⟨b, hb'⟩ : ∃ b, l'[i + 1]? = some b := ⟨_, List.getElem?_eq_getElem hi1⟩
        have hA : EvA (tCons (tOp (rIxL K) (tVar 4) (tVar 7)) (tCons (tOp (rIxL K) (tVar 4) (tOp (rI0 fun i j => .int (i + j)) (tVar 7) (tC (.int 1)))) tNil)) [some (.ref t), some (.str z), some (.ref pf), some (.ref pm), some (.ref p), some (.bl rb), y6, some (.int (i : Int)), y8, y9] H5 [.str (sgS a), .str (sgS b)] :=
          ea_cons (ev_op (ev_var rfl) (ev_var rfl) (rv_ixL (sq_of hp5) (atI_nat (sgs_get ha)))) (ea_cons (ev_op (ev_var rfl) (ev_op (ev_var rfl) ev_c rv_I0) (rv_ixL (sq_of hp5) (at_of (j := i + 1) (by omega) (sgs_get hb')))) ea_nil)
        refine q_par2 hA fun H6 e6 => ?_
        have e56 := e5.trans e6
        refine s_when (b := fall ms a b) (ev_fall (a := a) (b := b) rfl rfl rfl (e56 _ _ hm)) (fun hb H7 e7 => ?_) (fun hb H7 e7 => ?_)
        · have hp7 : H7 p = some (.lst (sgs l')) := e7 _ _ (e6 _ _ hp5)
          refine ⟨_, rfl, _, rfl, (by show 2 ≤ sizeLine; decide), fun t' nt' => ?_⟩
          have ntp : p ≠ t' := ne_of_none hp7 nt'
          refine ⟨t', _, rfl, st_of upd_same, rfl, _, _, rfl, _, rfl, _, rfl, p, _, _, i, rfl, rfl, (upd_ne ntp).trans hp7, ixN_nat (by rw [sgs_len]; omega), ?_⟩
          refine ⟨_, _, rfl, _, rfl, _, rfl, _, _, rfl, rfl, p, _, _, i + 1, rfl, rfl, upd_same, (show ixN _ ((i : Int) + 1) = _ from ixN_nat (n := _) (i := i + 1) (by rw [List.length_set, sgs_len]; omega)), rfl, ?_⟩
          refine s_asg ev_c fun H8 e8 => ?_
          obtain ⟨x, y, hx, hy, lt⟩ := fall_some hb
          have hsw := set_swap ha hb'
          have hsp := split_at ha hb'
          have ho2 : ordL ms ((l'.set i b).set (i + 1) a) [] = ordL ms l' [] := by
            rw [hsw]
            conv => rhs; rw [hsp]
            exact ordL_swap hy hx (by omega)
          have hf2 : falls ms ((l'.set i b).set (i + 1) a) + 1 = falls ms l' := by
            rw [hsw]
            conv => rhs; rw [hsp]
            exact falls_swap hb
          have hle : falls ms l' ≤ falls ms l := by
            cases rb with
            | true => rw [(h1 rfl).1]; exact Nat.le_refl _
            | false => exact Nat.le_of_lt (h2 rfl)
          refine ⟨(l'.set i b).set (i + 1) a, false, _, _, _, _, rfl, ?_, ?_, ho2.trans ho', by rw [List.length_set, List.length_set]; exact hlen', (fun z => absurd z Bool.false_ne_true), fun _ => by omega⟩
          · exact Ex.trans (fun y u hy' => by
              have ny : y ≠ p := ne_of_none hy' np
              have ny2 : y ≠ t' := ne_of_none (e7 _ _ (e56 _ _ hy')) nt'
              rw [upd_ne ny, upd_ne ny, upd_ne ny2]
              exact e7 _ _ (e56 _ _ hy')) e8
          · exact e8 _ _ (by rw [upd_same, sgs_set, sgs_set])
        · refine ⟨l', rb, _, _, _, _, rfl, e56.trans e7, e7 _ _ (e6 _ _ hp5), ho', hlen', fun hr' => ?_, h2⟩
          obtain ⟨rfl, h3⟩ := h1 hr'
          refine ⟨rfl, fun j hj a' b' ha' hb2 => ?_⟩
          by_cases hji : j = i
          · subst hji
            rw [ha] at ha'
            rw [hb'] at hb2
            cases ha'
            cases hb2
            exact hb
          · exact h3 j (by omega) a' b' ha' hb2
      · rintro σ' H5 ⟨l', rb, y6, y7, y8, y9, rfl, e5, hp5, ho', hlen', h1, h2⟩
        cases rb with
        | true =>
          obtain ⟨rfl, h3⟩ := h1 rfl
          refine ⟨_, ?_, l', true, _, _, _, _, rfl, e5, hp5, ho', hlen', fun _ => still_of fun j a b ha hb => ?_, rfl⟩
          · show 2 * falls ms l' + 0 < _
            omega
          · have hj := (List.getElem?_eq_some_iff.mp hb).1
            exact h3 j (by omega) a b ha hb
        | false =>
          have h3 := h2 rfl
          refine ⟨_, ?_, l', false, _, _, _, _, rfl, e5, hp5, ho', hlen', (fun z => absurd z Bool.false_ne_true), rfl⟩
          show 2 * falls ms l' + 1 < _
          omega
    · have hrb : rb = true := by cases rb <;> first | rfl | cases hb
      subst hrb
      have hl : l = keyL fs ms z.cps.toList := by rw [kq, ← ho, ordL_id ro.okM (hst rfl)]
      refine s_ret (ev_joinP (l := l) (p := p) (ev_is ev_c (by rw [emp_str])) (ev_var rfl) (e3 _ _ hp) (by omega)) fun H4 e4 => ?_
      rw [hl]
      exact q H4 ((e2.trans e3).trans e4)
end
/-! ### an exchange leads back, and keeps the key -/
theorem put_split {a p b q : List Nat} : putL (a ++ p ++ b) a.length p.length q = a ++ q ++ b := by
  unfold putL
  have h1 : (a ++ p ++ b).take a.length = a := by rw [List.append_assoc, List.take_left]
  have h2 : (a ++ p ++ b).drop (a.length + p.length) = b := by
    rw [show a.length + p.length = (a ++ p).length from (List.length_append ..).symm, List.drop_left]
  rw [h1, h2]
theorem split_piece {l : List Nat} {i : Nat} {p : List Nat} (h : (l.drop i).take p.length = p) (hi : i ≤ l.length) : l = l.take i ++ p ++ l.drop (i + p.length) := by
  have h1 : p ++ l.drop (i + p.length) = l.drop i := by
    rw [← List.drop_drop]
    have := List.take_append_drop p.length (l.drop i)
    rw [h] at this
    exact this
  rw [List.append_assoc, h1, List.take_append_drop]
theorem one_at {l : List Nat} {i c : Nat} (h : l[i]? = some c) : (l.drop i).take 1 = [c] := by
  obtain ⟨h1, h2⟩ := List.getElem?_eq_some_iff.mp h
  rw [List.drop_eq_getElem_cons h1, h2]
  rfl
theorem two_at {l : List Nat} {i a b : Nat} (h : l[i]? = some a) (h' : l[i + 1]? = some b) : (l.drop i).take 2 = [a, b] := by
  obtain ⟨h1, h2⟩ := List.getElem?_eq_some_iff.mp h
  obtain ⟨h3, h4⟩ := List.getElem?_eq_some_iff.mp h'
  rw [List.drop_eq_getElem_cons h1, h2, List.drop_eq_getElem_cons h3, h4]
  rfl
theorem fold_word {fs : Fds} {w : List Nat} (h : ∀ c ∈ w, lk fs c = none) : foldL fs w = w := foldL_id h
theorem mark_alone {fs : Fds} {ms : Mks} (ro : RuleOk fs ms) {c : Nat} (h : isM ms c = true) : lk fs c = none := by
  obtain ⟨x, hx⟩ := Option.isSome_iff_exists.mp h
  exact (ro.mg _ (lk_mem hx)).2
structure Led (fs : Fds) (ms : Mks) (l x : List Nat) : Prop where
  back : Exch fs ms x l
  key : keyL fs ms x = keyL fs ms l
  sg : (∀ c ∈ l, sgn c = true) → ∀ c ∈ x, sgn c = true
  ge : 1 ≤ x.length
  le : x.length ≤ l.length + 2
theorem may_sym {ms : Mks} {a b : Nat} (h : maySw ms a b = true) : maySw ms b a = true ∧ isM ms a = true ∧ isM ms b = true ∧ lk ms a ≠ lk ms b := by
  unfold maySw at h ⊢
  obtain ⟨h1, h⟩ := Bool.and_eq_true_iff.mp h
  obtain ⟨h2, h3⟩ := Bool.and_eq_true_iff.mp h
  have ne : lk ms a ≠ lk ms b := fun e => by rw [decide_eq_true e] at h3; cases h3
  rw [h1, h2, decide_eq_false (fun e => ne e.symm)]
  exact ⟨rfl, rfl, rfl, ne⟩
theorem led_of {fs : Fds} {ms : Mks} (ro : RuleOk fs ms) {l x : List Nat} (h : Exch fs ms l x) : Led fs ms l x := by
  rcases h with ⟨i, c, w, hc, hw, rfl⟩ | ⟨c, w, i, hm, hi, hcut, rfl⟩ | ⟨i, a, b, ha, hb, hsw, rfl⟩
  · have hi := (List.getElem?_eq_some_iff.mp hc).1
    have sp := split_piece (p := [c]) (one_at hc) (Nat.le_of_lt hi)
    have hm := lk_mem hw
    obtain ⟨wd, wn⟩ := ro.fw _ hm
    have wd : Wd w 3 := wd
    have e : putL l i 1 w = l.take i ++ w ++ l.drop (i + 1) := rfl
    have tl : (l.take i).length = i := by rw [List.length_take]; omega
    have dl : (l.drop (i + 1)).length = l.length - (i + 1) := List.length_drop ..
    have wge := wd.ge
    have wle := wd.le
    have ek : foldL fs (putL l i 1 w) = foldL fs l := by
      rw [e, foldL_app, foldL_app]
      conv => rhs; rw [sp, foldL_app, foldL_app]
      rw [fold_word wn]
      congr 2
      unfold foldL foldC
      simp [hw]
    refine ⟨.inr (.inl ⟨c, w, i, hm, ?_, ?_, ?_⟩), ?_, fun hs d hd => ?_, ?_, ?_⟩
    · rw [e, List.length_append, List.length_append, tl]
      omega
    · rw [e, List.append_assoc, List.drop_append_of_le_length (by omega), List.drop_of_length_le (by omega), List.nil_append, List.take_left]
    · have z := put_split (a := l.take i) (p := w) (b := l.drop (i + 1)) (q := [c])
      rw [tl] at z
      rw [e, z]
      exact sp
    · unfold keyL
      rw [ek]
    · rw [e] at hd
      rcases List.mem_append.mp hd with hd | hd
      · rcases List.mem_append.mp hd with hd | hd
        · exact hs d (List.mem_of_mem_take hd)
        · exact wd.sg d hd
      · exact hs d (List.mem_of_mem_drop hd)
    · rw [e, List.length_append, List.length_append]
      omega
    · rw [e, List.length_append, List.length_append, tl, dl]
      omega
  · have hw := lk_of_mem ro.fn hm
    obtain ⟨wd, wn⟩ := ro.fw _ hm
    have wd : Wd w 3 := wd
    have sp := split_piece hcut (Nat.le_of_lt hi)
    have e : putL l i w.length [c] = l.take i ++ [c] ++ l.drop (i + w.length) := rfl
    have tl : (l.take i).length = i := by rw [List.length_take]; omega
    have wge := wd.ge
    have lw : i + w.length ≤ l.length := by
      have := congrArg List.length hcut
      rw [List.length_take, List.length_drop] at this
      omega
    have ek : foldL fs (putL l i w.length [c]) = foldL fs l := by
      rw [e, foldL_app, foldL_app]
      conv => rhs; rw [sp, foldL_app, foldL_app]
      rw [fold_word wn]
      congr 2
      unfold foldL foldC
      simp [hw]
    refine ⟨.inl ⟨i, c, w, ?_, hw, ?_⟩, ?_, fun hs d hd => ?_, ?_, ?_⟩
    · rw [e, List.append_assoc, List.getElem?_append_right (by omega), tl, Nat.sub_self]
      rfl
    · have z := put_split (a := l.take i) (p := [c]) (b := l.drop (i + w.length)) (q := w)
      rw [tl] at z
      rw [e]
      rw [show putL (l.take i ++ [c] ++ l.drop (i + w.length)) i 1 w = _ from z]
      exact sp
    · unfold keyL
      rw [ek]
    · rw [e] at hd
      rcases List.mem_append.mp hd with hd | hd
      · rcases List.mem_append.mp hd with hd | hd
        · exact hs d (List.mem_of_mem_take hd)
        · rw [List.mem_singleton.mp hd]
          exact ro.fk _ hm
      · exact hs d (List.mem_of_mem_drop hd)
    · rw [e, List.length_append, List.length_append]
      show 1 ≤ _ + 1 + _
      omega
    · rw [e, List.length_append, List.length_append, tl, List.length_drop]
      show i + 1 + _ ≤ _
      omega
  · obtain ⟨sym, ma, mb, ne⟩ := may_sym hsw
    have hi := (List.getElem?_eq_some_iff.mp ha).1
    have hi2 := (List.getElem?_eq_some_iff.mp hb).1
    have sp := split_piece (p := [a, b]) (two_at ha hb) (Nat.le_of_lt hi)
    have e : putL l i 2 [b, a] = l.take i ++ [b, a] ++ l.drop (i + 2) := rfl
    have tl : (l.take i).length = i := by rw [List.length_take]; omega
    have fa : foldC fs a = [a] := by unfold foldC; rw [mark_alone ro ma]; rfl
    have fb : foldC fs b = [b] := by unfold foldC; rw [mark_alone ro mb]; rfl
    obtain ⟨xa, hxa⟩ := Option.isSome_iff_exists.mp ma
    obtain ⟨xb, hxb⟩ := Option.isSome_iff_exists.mp mb
    refine ⟨.inr (.inr ⟨i, b, a, ?_, ?_, sym, ?_⟩), ?_, fun hs d hd => ?_, ?_, ?_⟩
    · rw [e, List.append_assoc, List.getElem?_append_right (by omega), tl, Nat.sub_self]
      rfl
    · rw [e, List.append_assoc, List.getElem?_append_right (by omega), tl, Nat.add_sub_cancel_left]
      rfl
    · have z := put_split (a := l.take i) (p := [b, a]) (b := l.drop (i + 2)) (q := [a, b])
      rw [tl] at z
      rw [e]
      rw [show putL (l.take i ++ [b, a] ++ l.drop (i + 2)) i 2 [a, b] = _ from z]
      exact sp
    · unfold keyL
      have two : ∀ u v : Nat, foldC fs u = [u] → foldC fs v = [v] → foldL fs [u, v] = [u, v] := fun u v hu hv => by
        unfold foldL
        simp [hu, hv]
      rw [e, foldL_app, foldL_app, two b a fb fa]
      conv => rhs; rw [sp, foldL_app, foldL_app, two a b fa fb]
      rw [List.append_assoc, List.append_assoc]
      exact (ordL_swap hxa hxb (fun z => ne (by rw [hxa, hxb, z]))).symm
    · rw [e] at hd
      rcases List.mem_append.mp hd with hd | hd
      · rcases List.mem_append.mp hd with hd | hd
        · exact hs d (List.mem_of_mem_take hd)
        · rcases List.mem_cons.mp hd with rfl | hd
          · exact hs d (List.mem_of_getElem? hb)
          · rw [List.mem_singleton.mp hd]
            exact hs a (List.mem_of_getElem? ha)
      · exact hs d (List.mem_of_mem_drop hd)
    · rw [e, List.length_append, List.length_append]
      show 1 ≤ _ + 2 + _
      omega
    · rw [e, List.length_append, List.length_append, tl, List.length_drop]
      show i + 2 + _ ≤ _
      omega
end Nm


set_option Elab.async false
set_option linter.all false
set_option maxRecDepth 100000
set_option maxHeartbeats 4000000
namespace Nm
open PySem PySem.Spec PyProof.Rows L2 Evl
/-! ### exchanges by pieces -/
def Ex3 (fs : Fds) (ms : Mks) (l x : List Nat) : Prop :=
  (∃ a c w b, (c, w) ∈ fs ∧ l = a ++ c :: b ∧ x = a ++ w ++ b) ∨ (∃ a c w b, (c, w) ∈ fs ∧ l = a ++ w ++ b ∧ x = a ++ c :: b) ∨ ∃ p a b r, maySw ms a b = true ∧ l = p ++ a :: b :: r ∧ x = p ++ b :: a :: r
theorem exch_iff {fs : Fds} {ms : Mks} (ro : RuleOk fs ms) {l x : List Nat} : Exch fs ms l x ↔ Ex3 fs ms l x := by
  constructor
  · rintro (⟨i, c, w, hc, hw, rfl⟩ | ⟨c, w, i, hm, hi, hcut, rfl⟩ | ⟨i, a, b, ha, hb, hsw, rfl⟩)
    · have hi := (List.getElem?_eq_some_iff.mp hc).1
      have sp := split_piece (p := [c]) (one_at hc) (Nat.le_of_lt hi)
      exact .inl ⟨l.take i, c, w, l.drop (i + 1), lk_mem hw, by rw [List.append_assoc] at sp; exact sp, rfl⟩
    · exact .inr (.inl ⟨l.take i, c, w, l.drop (i + w.length), hm, split_piece hcut (Nat.le_of_lt hi), by unfold putL; rw [List.append_assoc]; rfl⟩)
    · have hi := (List.getElem?_eq_some_iff.mp ha).1
      have sp := split_piece (p := [a, b]) (two_at ha hb) (Nat.le_of_lt hi)
      exact .inr (.inr ⟨l.take i, a, b, l.drop (i + 2), hsw, by rw [List.append_assoc] at sp; exact sp, by unfold putL; rw [List.append_assoc]; rfl⟩)
  · rintro (⟨a, c, w, b, hm, rfl, rfl⟩ | ⟨a, c, w, b, hm, rfl, rfl⟩ | ⟨p, a, b, r, hsw, rfl, rfl⟩)
    · refine .inl ⟨a.length, c, w, by rw [List.getElem?_append_right (Nat.le_refl _), Nat.sub_self]; rfl, lk_of_mem ro.fn hm, ?_⟩
      have z := put_split (a := a) (p := [c]) (b := b) (q := w)
      rw [List.append_assoc (bs := [c])] at z
      exact z.symm
    · have wge : 1 ≤ w.length := ((ro.fw _ hm).1 : Wd w 3).ge
      refine .inr (.inl ⟨c, w, a.length, hm, by rw [List.length_append, List.length_append]; omega, by rw [List.append_assoc, List.drop_left, List.take_left], ?_⟩)
      have z := put_split (a := a) (p := w) (b := b) (q := [c])
      rw [z, List.append_assoc]
      rfl
    · refine .inr (.inr ⟨p.length, a, b, by rw [List.getElem?_append_right (Nat.le_refl _), Nat.sub_self]; rfl, by rw [List.getElem?_append_right (by omega), Nat.add_sub_cancel_left]; rfl, hsw, ?_⟩)
      have z := put_split (a := p) (p := [a, b]) (b := r) (q := [b, a])
      rw [List.append_assoc (bs := [a, b])] at z
      rw [show p ++ a :: b :: r = p ++ ([a, b] ++ r) from rfl]
      rw [show putL (p ++ ([a, b] ++ r)) p.length 2 [b, a] = _ from z, List.append_assoc]
      rfl
theorem ex3_in {fs : Fds} {ms : Mks} {l x : List Nat} (p q : List Nat) (h : Ex3 fs ms l x) : Ex3 fs ms (p ++ l ++ q) (p ++ x ++ q) := by
  rcases h with ⟨a, c, w, b, hm, rfl, rfl⟩ | ⟨a, c, w, b, hm, rfl, rfl⟩ | ⟨s, a, b, r, hsw, rfl, rfl⟩
  · exact .inl ⟨p ++ a, c, w, b ++ q, hm, by simp, by simp⟩
  · exact .inr (.inl ⟨p ++ a, c, w, b ++ q, hm, by simp, by simp⟩)
  · exact .inr (.inr ⟨p ++ s, a, b, r ++ q, hsw, by simp, by simp⟩)
theorem ex3_more {fs fs' : Fds} {ms : Mks} {l x : List Nat} (hs : ∀ p ∈ fs, p ∈ fs') (h : Ex3 fs ms l x) : Ex3 fs' ms l x := by
  rcases h with ⟨a, c, w, b, hm, rfl, rfl⟩ | ⟨a, c, w, b, hm, rfl, rfl⟩ | h
  · exact .inl ⟨a, c, w, b, hs _ hm, rfl, rfl⟩
  · exact .inr (.inl ⟨a, c, w, b, hs _ hm, rfl, rfl⟩)
  · exact .inr (.inr h)
/-- a fold's own sign is told by its count -/
theorem count_fold {fs : Fds} {ms : Mks} (ro : RuleOk fs ms) {a b w : List Nat} {c : Nat} (hm : (c, w) ∈ fs) : (a ++ c :: b).count c = (a ++ w ++ b).count c + 1 := by
  have hw : w.count c = 0 := List.count_eq_zero.mpr fun hc => by
    have h1 := (ro.fw _ hm).2 c hc
    rw [lk_of_mem ro.fn hm] at h1
    cases h1
  rw [List.count_append, List.count_cons_self, List.count_append, List.count_append, hw]
  omega
theorem swap_perm {p r : List Nat} {a b : Nat} : (p ++ a :: b :: r).Perm (p ++ b :: a :: r) := List.Perm.append_left p (List.Perm.swap b a r)
/-- without the folds that show -/
theorem less_fold {fs fs' : Fds} {ms : Mks} (ro : RuleOk fs ms) {l x : List Nat} (hs : ∀ p ∈ fs', p ∈ fs ∧ l.count p.1 = x.count p.1) (np : ¬ l.Perm x) : ¬ Ex3 fs' ms l x := by
  rintro (⟨a, c, w, b, hm, rfl, rfl⟩ | ⟨a, c, w, b, hm, rfl, rfl⟩ | ⟨s, a, b, r, hsw, rfl, rfl⟩)
  · obtain ⟨h1, h2⟩ := hs _ hm
    have := count_fold ro (a := a) (b := b) h1
    exact absurd (h2 ▸ this : _) (by show ¬ ((a ++ w ++ b).count c = (a ++ w ++ b).count c + 1); omega)
  · obtain ⟨h1, h2⟩ := hs _ hm
    have := count_fold ro (a := a) (b := b) h1
    have h2 : (a ++ w ++ b).count c = (a ++ c :: b).count c := h2
    omega
  · exact np swap_perm
/-- without the classes -/
theorem less_mark {fs : Fds} {ms ms' : Mks} (ro : RuleOk fs ms) {l x : List Nat} (h1 : ∀ c y, lk ms' c = some y → y = 1) (pm : l.Perm x) : ¬ Ex3 fs ms' l x := by
  rintro (⟨a, c, w, b, hm, rfl, rfl⟩ | ⟨a, c, w, b, hm, rfl, rfl⟩ | ⟨s, a, b, r, hsw, rfl, rfl⟩)
  · have := count_fold ro (a := a) (b := b) hm
    have := pm.count_eq c
    omega
  · have := count_fold ro (a := a) (b := b) hm
    have := pm.count_eq c
    omega
  · obtain ⟨_, ma, mb, ne⟩ := may_sym hsw
    obtain ⟨y, hy⟩ := Option.isSome_iff_exists.mp ma
    obtain ⟨z, hz⟩ := Option.isSome_iff_exists.mp mb
    exact ne (by rw [hy, hz, h1 _ _ hy, h1 _ _ hz])
/-! ### the way to the key -/
theorem nearF_spec {fs : Fds} : ∀ {l x : List Nat}, nearF fs l = some x → ∃ a c w b, l = a ++ c :: b ∧ lk fs c = some w ∧ x = a ++ w ++ b
  | c :: r, x, h => by
    unfold nearF at h
    cases hc : lk fs c with
    | some w =>
      rw [hc] at h
      exact ⟨[], c, w, r, rfl, hc, (Option.some.inj h).symm⟩
    | none =>
      rw [hc] at h
      obtain ⟨y, hy, rfl⟩ := Option.map_eq_some_iff.mp h
      obtain ⟨a, d, w, b, rfl, hw, rfl⟩ := nearF_spec hy
      exact ⟨c :: a, d, w, b, rfl, hw, rfl⟩
theorem nearF_no {fs : Fds} : ∀ {l : List Nat}, nearF fs l = none → ∀ c ∈ l, lk fs c = none
  | c :: r, h, d, hd => by
    unfold nearF at h
    cases hc : lk fs c with
    | some w => rw [hc] at h; cases h
    | none =>
      rw [hc] at h
      rcases List.mem_cons.mp hd with rfl | hd
      · exact hc
      · exact nearF_no (Option.map_eq_none_iff.mp h) d hd
theorem nearM_spec {ms : Mks} : ∀ {l x : List Nat}, nearM ms l = some x → ∃ p a b r, l = p ++ a :: b :: r ∧ fall ms a b = true ∧ x = p ++ b :: a :: r
  | [], x, h => by unfold nearM at h; cases h
  | [_], x, h => by unfold nearM at h; cases h
  | a :: b :: r, x, h => by
    unfold nearM at h
    by_cases hf : fall ms a b = true
    · rw [if_pos hf] at h
      exact ⟨[], a, b, r, rfl, hf, (Option.some.inj h).symm⟩
    · rw [if_neg hf] at h
      obtain ⟨y, hy, rfl⟩ := Option.map_eq_some_iff.mp h
      obtain ⟨p, c, d, s, e, hf', rfl⟩ := nearM_spec hy
      exact ⟨a :: p, c, d, s, by rw [e]; rfl, hf', rfl⟩
theorem nearM_no {ms : Mks} : ∀ {l : List Nat}, nearM ms l = none → still ms l
  | [], _ => trivial
  | [_], _ => trivial
  | a :: b :: r, h => by
    unfold nearM at h
    by_cases hf : fall ms a b = true
    · rw [if_pos hf] at h; cases h
    · rw [if_neg hf] at h
      exact ⟨by simpa using hf, nearM_no (Option.map_eq_none_iff.mp h)⟩
theorem near_spec {fs : Fds} {ms : Mks} {l x : List Nat} (h : nearL fs ms l = some x) : (∃ a c w b, l = a ++ c :: b ∧ lk fs c = some w ∧ x = a ++ w ++ b) ∨ ∃ p a b r, l = p ++ a :: b :: r ∧ fall ms a b = true ∧ x = p ++ b :: a :: r := by
  unfold nearL at h
  cases hF : nearF fs l with
  | some y =>
    rw [hF] at h
    rw [← Option.some.inj h]
    exact .inl (nearF_spec hF)
  | none =>
    rw [hF] at h
    exact .inr (nearM_spec h)
theorem near_exch {fs : Fds} {ms : Mks} (ro : RuleOk fs ms) {l x : List Nat} (h : nearL fs ms l = some x) : Exch fs ms l x := by
  rw [exch_iff ro]
  rcases near_spec h with ⟨a, c, w, b, e, hw, ex⟩ | ⟨p, a, b, r, e, hf, ex⟩
  · exact .inl ⟨a, c, w, b, lk_mem hw, e, ex⟩
  · rw [fall_may] at hf
    exact .inr (.inr ⟨p, a, b, r, (Bool.and_eq_true_iff.mp hf).1, e, ex⟩)
theorem near_end {fs : Fds} {ms : Mks} (ro : RuleOk fs ms) {l : List Nat} (h : nearL fs ms l = none) : keyL fs ms l = l := by
  unfold nearL at h
  cases hF : nearF fs l with
  | some y => rw [hF] at h; cases h
  | none =>
    rw [hF] at h
    unfold keyL
    rw [foldL_id (nearF_no hF), ordL_id ro.okM (nearM_no h)]
def Steps (R : List Nat → List Nat → Prop) (ws : List (List Nat)) : Prop := ∀ (i : Nat) (a b : List Nat), ws[i]? = some a → ws[i + 1]? = some b → R a b
theorem Steps.cons {R : List Nat → List Nat → Prop} {a b : List Nat} {r : List (List Nat)} (h : R a b) (s : Steps R (b :: r)) : Steps R (a :: b :: r) := fun i x y hx hy => by
  cases i with
  | zero => cases hx; cases hy; exact h
  | succ i => exact s i x y hx hy
theorem wayN_all {fs : Fds} {ms : Mks} (ro : RuleOk fs ms) : ∀ {n : Nat} {l : List Nat} {ws : List (List Nat)}, wayN fs ms n l = some ws → Steps (Exch fs ms) ws ∧ ∃ d, ws = d ++ [keyL fs ms l]
  | n + 1, l, ws, h => by
    unfold wayN at h
    cases hN : nearL fs ms l with
    | none =>
      rw [hN] at h
      cases h
      exact ⟨fun i a b _ hb => by simp at hb, [], by rw [near_end ro hN]; rfl⟩
    | some x =>
      rw [hN] at h
      obtain ⟨r, hr, rfl⟩ := Option.map_eq_some_iff.mp h
      obtain ⟨s, d, e⟩ := wayN_all ro hr
      obtain ⟨r', er⟩ := wayN_ne hr
      have hx := near_exch ro hN
      refine ⟨?_, l :: d, ?_⟩
      · rw [er] at s ⊢
        exact s.cons hx
      · show l :: r = l :: (d ++ [keyL fs ms l])
        rw [e, (led_of ro hx).key]
def cF (fs : Fds) (l : List Nat) : Nat := (l.filter fun c => (lk fs c).isSome).length
theorem falls_le {ms : Mks} : ∀ l : List Nat, falls ms l ≤ l.length * l.length
  | [] => Nat.le_refl _
  | a :: l => by
    have ih := falls_le (ms := ms) l
    have h1 : fallsC ms a l ≤ l.length := List.length_filter_le ..
    show fallsC ms a l + falls ms l ≤ (l.length + 1) * (l.length + 1)
    rw [Nat.succ_mul, Nat.mul_succ]
    omega
theorem near_falls {fs : Fds} {ms : Mks} {l x : List Nat} (h : nearL fs ms l = some x) : (∃ a c w b, l = a ++ c :: b ∧ lk fs c = some w ∧ x = a ++ w ++ b) ∨ (cF fs l = 0 ∧ ∃ p a b r, l = p ++ a :: b :: r ∧ fall ms a b = true ∧ x = p ++ b :: a :: r) := by
  unfold nearL at h
  cases hF : nearF fs l with
  | some y =>
    rw [hF] at h
    rw [← Option.some.inj h]
    exact .inl (nearF_spec hF)
  | none =>
    rw [hF] at h
    refine .inr ⟨?_, nearM_spec h⟩
    unfold cF
    rw [List.length_eq_zero_iff, List.filter_eq_nil_iff]
    intro c hc e
    rw [nearF_no hF c hc] at e
    cases e
/-- how far it is to the key -/
def farL (fs : Fds) (ms : Mks) (l : List Nat) : Nat := cF fs l + if cF fs l = 0 then falls ms l else 1300
theorem way_ex {fs : Fds} {ms : Mks} (ro : RuleOk fs ms) : ∀ (m : Nat) {l : List Nat}, farL fs ms l < m → (∀ c ∈ l, sgn c = true) → 1 ≤ l.length → l.length + 2 * cF fs l ≤ 36 →
    ∃ ws, wayN fs ms m l = some ws ∧ ws.length ≤ m ∧ ∀ x ∈ ws, 1 ≤ x.length ∧ x.length ≤ 36 ∧ ∀ c ∈ x, sgn c = true
  | 0, _, h, _, _, _ => absurd h (Nat.not_lt_zero _)
  | m + 1, l, h, hs, h1, h2 => by
    have here : 1 ≤ l.length ∧ l.length ≤ 36 ∧ ∀ c ∈ l, sgn c = true := ⟨h1, by omega, hs⟩
    unfold wayN
    cases hN : nearL fs ms l with
    | none => exact ⟨[l], rfl, by show 1 ≤ m + 1; omega, fun x hx => by rw [List.mem_singleton.mp hx]; exact here⟩
    | some x =>
      have ld := led_of ro (near_exch ro hN)
      have dec : farL fs ms x < m ∧ x.length + 2 * cF fs x ≤ 36 := by
        rcases near_falls hN with ⟨a, c, w, b, rfl, hw, rfl⟩ | ⟨h0, p, a, b, r, rfl, hf, rfl⟩
        · obtain ⟨wd, wn⟩ := ro.fw _ (lk_mem hw)
          have wle : w.length ≤ 3 := (wd : Wd w 3).le
          have c0 : (w.filter fun c => (lk fs c).isSome).length = 0 := by
            rw [List.length_eq_zero_iff, List.filter_eq_nil_iff]
            intro d hd e
            rw [wn d hd] at e
            cases e
          have e1 : cF fs (a ++ c :: b) = cF fs (a ++ w ++ b) + 1 := by
            unfold cF
            rw [List.filter_append, List.filter_append, List.filter_append, List.length_append, List.length_append, List.length_append, c0, List.filter_cons_of_pos (by rw [hw]; rfl), List.length_cons]
            omega
          have e2 : (a ++ w ++ b).length ≤ (a ++ c :: b).length + 2 := by
            simp only [List.length_append, List.length_cons]
            omega
          have l18 : (a ++ w ++ b).length ≤ 36 := by omega
          have f1 := falls_le (ms := ms) (a ++ w ++ b)
          have f2 : (a ++ w ++ b).length * (a ++ w ++ b).length ≤ 36 * 36 := Nat.mul_le_mul l18 l18
          refine ⟨?_, by omega⟩
          unfold farL at h ⊢
          rw [e1, if_neg (Nat.succ_ne_zero _)] at h
          split
          · omega
          · omega
        · have e1 := falls_swap hf (l := p) (r := r)
          have pm : (p ++ a :: b :: r).Perm (p ++ b :: a :: r) := swap_perm
          have e2 : cF fs (p ++ b :: a :: r) = cF fs (p ++ a :: b :: r) := ((pm.filter _).length_eq).symm
          have e3 := pm.length_eq
          refine ⟨?_, by omega⟩
          unfold farL at h ⊢
          rw [h0, if_pos rfl] at h
          rw [e2, h0, if_pos rfl]
          omega
      obtain ⟨ws, hw, hl, ha⟩ := way_ex ro m dec.1 (ld.sg hs) ld.ge dec.2
      refine ⟨l :: ws, (show (wayN fs ms m x).map (l :: ·) = some (l :: ws) by rw [hw]; rfl), by rw [List.length_cons]; omega, fun y hy => ?_⟩
      rcases List.mem_cons.mp hy with rfl | hy
      · exact here
      · exact ha y hy
/-! ### ways -/
structure Way (fs : Fds) (ms : Mks) (M N : Nat) (o t : List Nat) (ws : List (List Nat)) : Prop where
  hd : ws[0]? = some o
  la : ws.reverse[0]? = some t
  ch : Steps (Exch fs ms) ws
  sz : ∀ x ∈ ws, 1 ≤ x.length ∧ x.length ≤ M ∧ ∀ c ∈ x, sgn c = true
  ln : ws.length ≤ N
theorem Steps.rev {fs : Fds} {ms : Mks} (ro : RuleOk fs ms) {ws : List (List Nat)} (h : Steps (Exch fs ms) ws) : Steps (Exch fs ms) ws.reverse := fun i a b ha hb => by
  have hl := (List.getElem?_eq_some_iff.mp hb).1
  rw [List.length_reverse] at hl
  rw [List.getElem?_reverse (by omega)] at ha hb
  refine (led_of ro (h (ws.length - 1 - (i + 1)) b a hb ?_)).back
  rw [← ha]
  congr 1
  omega
theorem Steps.join {R : List Nat → List Nat → Prop} {p q : List (List Nat)} {x : List Nat} (h1 : Steps R (p ++ [x])) (h2 : Steps R (x :: q)) : Steps R (p ++ x :: q) := fun i a b ha hb => by
  by_cases hi : i < p.length
  · refine h1 i a b ?_ ?_
    · rw [List.getElem?_append_left hi] at ha ⊢
      exact ha
    · by_cases h : i + 1 < p.length
      · rw [List.getElem?_append_left h] at hb ⊢
        exact hb
      · rw [List.getElem?_append_right (by omega)] at hb ⊢
        rw [show i + 1 - p.length = 0 by omega] at hb ⊢
        exact hb
  · refine h2 (i - p.length) a b ?_ ?_
    · rw [List.getElem?_append_right (by omega)] at ha
      exact ha
    · rw [List.getElem?_append_right (by omega), show i + 1 - p.length = i - p.length + 1 by omega] at hb
      exact hb
theorem Steps.take {R : List Nat → List Nat → Prop} {ws : List (List Nat)} {n : Nat} (h : Steps R ws) : Steps R (ws.take n) := fun i a b ha hb => by
  rw [List.getElem?_take] at ha hb
  split at ha
  · split at hb
    · exact h i a b ha hb
    · cases hb
  · cases ha
theorem Way.rev {fs : Fds} {ms : Mks} (ro : RuleOk fs ms) {M N : Nat} {o t : List Nat} {ws : List (List Nat)} (h : Way fs ms M N o t ws) : Way fs ms M N t o ws.reverse :=
  ⟨h.la, by rw [List.reverse_reverse]; exact h.hd, h.ch.rev ro, fun x hx => h.sz x (List.mem_reverse.mp hx), by rw [List.length_reverse]; exact h.ln⟩
theorem Way.last {fs : Fds} {ms : Mks} {M N : Nat} {o t : List Nat} {ws : List (List Nat)} (h : Way fs ms M N o t ws) : ∃ d, ws = d ++ [t] := by
  have h2 := h.la
  cases hr : ws.reverse with
  | nil => rw [hr] at h2; cases h2
  | cons y r =>
    rw [hr] at h2
    cases h2
    exact ⟨r.reverse, by rw [← List.reverse_reverse ws, hr, List.reverse_cons]⟩
theorem Way.first {fs : Fds} {ms : Mks} {M N : Nat} {o t : List Nat} {ws : List (List Nat)} (h : Way fs ms M N o t ws) : ∃ d, ws = o :: d := by
  have h2 := h.hd
  cases ws with
  | nil => cases h2
  | cons y r => cases h2; exact ⟨r, rfl⟩
theorem Way.join {fs : Fds} {ms : Mks} {M N N' : Nat} {o m t : List Nat} {p q : List (List Nat)} (h1 : Way fs ms M N o m (p ++ [m])) (h2 : Way fs ms M N' m t (m :: q)) : Way fs ms M (N + N') o t (p ++ m :: q) := by
  refine ⟨?_, ?_, h1.ch.join h2.ch, fun x hx => ?_, ?_⟩
  · have := h1.hd
    cases p with
    | nil => exact this
    | cons y r => exact this
  · have := h2.la
    rw [List.reverse_append]
    rw [List.getElem?_append_left (by rw [List.length_reverse]; exact Nat.succ_pos _)]
    exact this
  · rcases List.mem_append.mp hx with h | h
    · exact h1.sz x (List.mem_append_left _ h)
    · exact h2.sz x h
  · have a1 := h1.ln
    have a2 := h2.ln
    rw [List.length_append] at a1 ⊢
    have : [m].length = 1 := rfl
    omega
theorem Way.to {fs : Fds} {ms : Mks} {M N : Nat} {o t m : List Nat} {ws : List (List Nat)} (h : Way fs ms M N o t ws) {i : Nat} (hi : ws[i]? = some m) : Way fs ms M N o m (ws.take (i + 1)) ∧ ws.take (i + 1) = ws.take i ++ [m] := by
  have e : ws.take (i + 1) = ws.take i ++ [m] := by rw [List.take_add_one, hi]; rfl
  refine ⟨⟨?_, ?_, h.ch.take, fun x hx => h.sz x (List.mem_of_mem_take hx), Nat.le_trans (by rw [List.length_take]; exact Nat.min_le_right _ _) h.ln⟩, e⟩
  · rw [List.getElem?_take_of_lt (by omega)]
    exact h.hd
  · rw [e, List.reverse_append]
    rfl
/-- two ways to one text, put together -/
theorem Way.meet {fs : Fds} {ms : Mks} (ro : RuleOk fs ms) {M N : Nat} {o t k k' m : List Nat} {d1 d2 : List (List Nat)} (h1 : Way fs ms M N o k d1) (h2 : Way fs ms M N t k' d2) {i j : Nat} (hi : d1[i]? = some m) (hj : d2[j]? = some m) :
    Way fs ms M (N + N) o t (d1.take i ++ (d2.take (j + 1)).reverse) := by
  obtain ⟨a1, e1⟩ := h1.to hi
  obtain ⟨a2, e2⟩ := h2.to hj
  have a2 := a2.rev ro
  rw [e1] at a1
  rw [e2, List.reverse_append] at a2 ⊢
  exact a1.join a2
theorem way_of {fs : Fds} {ms : Mks} (ro : RuleOk fs ms) {l : List Nat} (wd : Wd l 12) : ∃ d, WayOk fs ms l (d ++ [keyL fs ms l]) ∧ Way fs ms 36 1400 l (keyL fs ms l) (d ++ [keyL fs ms l]) := by
  have h1 := wd.ge
  have h2 := wd.le
  have h3 : cF fs l ≤ l.length := List.length_filter_le ..
  have h4 := falls_le (ms := ms) l
  have h5 : l.length * l.length ≤ 12 * 12 := Nat.mul_le_mul h2 h2
  have h6 : farL fs ms l < 1400 := by
    unfold farL
    split <;> omega
  obtain ⟨ws, hw, hl, ha⟩ := way_ex ro 1400 (l := l) h6 wd.sg h1 (by omega)
  obtain ⟨s, d, e⟩ := wayN_all ro hw
  obtain ⟨r, er⟩ := wayN_ne hw
  rw [e] at hw hl ha s
  refine ⟨d, ⟨⟨_, hw⟩, fun x hx => ⟨(ha x hx).1, by have := (ha x hx).2.1; omega⟩, by omega⟩, ?_, ?_, s, ha, hl⟩
  · rw [← e, er]; rfl
  · rw [List.reverse_append]; rfl
theorem Way.met {fs : Fds} {ms : Mks} (ro : RuleOk fs ms) {M N : Nat} {o t k k' : List Nat} {d1 d2 : List (List Nat)} (h1 : Way fs ms M N o k d1) (h2 : Way fs ms M N t k' d2) (ek : k = k') : Way fs ms M (N + N) o t (metL d1 d2) := by
  subst ek
  obtain ⟨e1, r1⟩ := h1.last
  obtain ⟨e2, r2⟩ := h2.last
  obtain ⟨i, j, m, hi, hj, e⟩ := metL_is (w1 := d1) (w2 := d2) ⟨k, by rw [r1]; exact List.mem_append_right _ (List.mem_singleton.mpr rfl), by rw [r2]; exact List.mem_append_right _ (List.mem_singleton.mpr rfl)⟩
  rw [e]
  exact Way.meet ro h1 h2 hi hj
theorem Way.around {fs : Fds} {ms : Mks} (ro : RuleOk fs ms) {M N : Nat} {o t p q : List Nat} {ws : List (List Nat)} (h : Way fs ms M N o t ws) (hp : ∀ c ∈ p, sgn c = true) (hq : ∀ c ∈ q, sgn c = true) :
    Way fs ms (p.length + M + q.length) N (p ++ o ++ q) (p ++ t ++ q) (ws.map fun x => p ++ x ++ q) := by
  refine ⟨by rw [List.getElem?_map, h.hd]; rfl, by rw [← List.map_reverse, List.getElem?_map, h.la]; rfl, fun i a b ha hb => ?_, fun x hx => ?_, by rw [List.length_map]; exact h.ln⟩
  · rw [List.getElem?_map] at ha hb
    obtain ⟨a', ha', rfl⟩ := Option.map_eq_some_iff.mp ha
    obtain ⟨b', hb', rfl⟩ := Option.map_eq_some_iff.mp hb
    exact (exch_iff ro).mpr (ex3_in p q ((exch_iff ro).mp (h.ch i a' b' ha' hb')))
  · obtain ⟨y, hy, rfl⟩ := List.mem_map.mp hx
    obtain ⟨z1, z2, z3⟩ := h.sz y hy
    refine ⟨by rw [List.length_append, List.length_append]; omega, by rw [List.length_append, List.length_append]; omega, fun c hc => ?_⟩
    rcases List.mem_append.mp hc with hc | hc
    · rcases List.mem_append.mp hc with hc | hc
      · exact hp c hc
      · exact z3 c hc
    · exact hq c hc
theorem Way.more {fs fs' : Fds} {ms : Mks} (ro : RuleOk fs ms) (ro' : RuleOk fs' ms) (hs : ∀ p ∈ fs, p ∈ fs') {M N : Nat} {o t : List Nat} {ws : List (List Nat)} (h : Way fs ms M N o t ws) : Way fs' ms M N o t ws :=
  ⟨h.hd, h.la, fun i a b ha hb => (exch_iff ro').mpr (ex3_more hs ((exch_iff ro).mp (h.ch i a b ha hb))), h.sz, h.ln⟩
theorem Way.one {fs : Fds} {ms : Mks} {M : Nat} {o : List Nat} (h1 : 1 ≤ o.length) (h2 : o.length ≤ M) (h3 : ∀ c ∈ o, sgn c = true) : Way fs ms M 1 o o [o] :=
  ⟨rfl, rfl, fun i a b _ hb => by simp at hb, fun x hx => by rw [List.mem_singleton.mp hx]; exact ⟨h1, h2, h3⟩, Nat.le_refl _⟩
end Nm


set_option Elab.async false
set_option linter.all false
set_option maxRecDepth 100000
set_option maxHeartbeats 4000000
namespace Nm
open PySem PySem.Spec PyProof.Rows L2 Evl
/-! ### lists of texts compared, exchanges asked -/
theorem dp_strs {K : Fg} {H : Hp} : ∀ ys : List Str, DpAll K H (ys.map V.str) (ys.map PyData.str)
  | [] => .nil
  | y :: r => .cons (.str y) (dp_strs r)
theorem lay_strs : ∀ ys : List Str, PyData.canLayAll0 (ys.map PyData.str) = ys.all PyData.strOk
  | [] => rfl
  | y :: r => by
    show (PyData.canLay0 (.str y) && PyData.canLayAll0 (r.map PyData.str)) = (PyData.strOk y && r.all PyData.strOk)
    rw [lay_strs r]
    rfl
theorem plain_strs (ys : List Str) (hs : ∀ y ∈ ys, PyData.strOk y = true) : PyData.eqv (.list (ys.map PyData.str)) (.list (ys.map PyData.str)) = true ∧ SeqAt.shaped (.list (ys.map PyData.str)) = true := by
  have h1 : (PyData.list (ys.map PyData.str)).canLay0 = true := by
    simp only [PyData.canLay0]
    rw [lay_strs, List.all_eq_true]
    exact hs
  have h2 : PyData.depthAll (ys.map PyData.str) = 0 := by
    clear h1 hs
    induction ys with
    | nil => rfl
    | cons b r ih => simp [PyData.depthAll, PyData.depth, ih]
  refine ⟨SeqAt.eqv_refl _ h1, ?_⟩
  unfold SeqAt.shaped
  rw [h1]
  simp only [PyData.depth, h2]
  rfl
theorem sgn_lo {c : Nat} (h : sgn c = true) : c < 1000 := by
  have h1 : SIGNS.cps.toList.all (fun c => decide (c < 1000)) = true := by decide +kernel
  exact of_decide_eq_true (List.all_eq_true.mp h1 c (of_decide_eq_true h))
theorem str_ok {z : Str} (h : ∀ c ∈ z.cps.toList, sgn c = true) : PyData.strOk z = true := by
  have := low_ok (l := z.cps.toList) fun c hc => sgn_lo (h c hc)
  rwa [stL_of] at this
theorem ev_isiL {K : Fg} {tf : TE} {σ : L2.St} {H : Hp} {p : Addr} {xs : List V} (h : Ev tf σ H (.ref p)) (hp : H p = some (.lst xs)) : Ev (tCB (rIsi K) (tCons tf (tCons (tC (.ty "list")) tNil))) σ H (.bl true) := fun H1 e Q q =>
  h H1 e _ fun H2 e2 => ⟨.ref p, .ty "list", .type "list", .type "list", true, rfl, .ty "list", .base (.lst ((e.trans e2) _ _ hp)), by unfold PySem.W.kitOne; simp, q H2 e2⟩
/-- some list with these items, new or not -/
def EvLR (te : TE) (σ : L2.St) (H : Hp) (xs : List V) : Prop := ∀ H1, Ex H H1 → ∀ Q : VK, (∀ p H2, Ex H1 H2 → H2 p = some (.lst xs) → Q (.ref p) H2) → te σ H1 Q
theorem EvLR.of {te : TE} {σ : L2.St} {H : Hp} {xs : List V} {p : Addr} (h : Ev te σ H (.ref p)) (hp : H p = some (.lst xs)) : EvLR te σ H xs := fun H1 e Q q => h H1 e Q fun H2 e2 => q p H2 e2 ((e.trans e2) _ _ hp)
theorem EvLR.ofM {te : TE} {σ : L2.St} {H : Hp} {xs : List V} (h : EvM te σ H xs) : EvLR te σ H xs := fun H1 e Q q => h H1 e Q fun p H2 _ _ e2 hp => q p H2 e2 hp
/-- the exchanges of a word, in order -/
structure ExOk (fs : Fds) (ms : Mks) (l : List Nat) (ys : List Str) : Prop where
  nd : ys.Nodup
  so : sortedS ys = true
  mem : ∀ z, z ∈ ys ↔ Exch fs ms l z.cps.toList
theorem ExOk.one {fs : Fds} {ms : Mks} {l : List Nat} {ys zs : List Str} (h1 : ExOk fs ms l ys) (h2 : ExOk fs ms l zs) : ys = zs := sorted_set_eq h1.nd h2.nd (fun z => (h1.mem z).trans (h2.mem z).symm) h1.so h2.so
theorem ExOk.sg {fs : Fds} {ms : Mks} {l : List Nat} {ys : List Str} (h : ExOk fs ms l ys) (ro : RuleOk fs ms) (hl : ∀ c ∈ l, sgn c = true) : ∀ y ∈ ys, PyData.strOk y = true := fun y hy => str_ok ((led_of ro ((h.mem y).mp hy)).sg hl)
section
variable {K : Fg} {C a : Addr} {ta tb tc : TE} {tA : TA} {σ : L2.St} {H : Hp} {fs : Fds} {ms : Mks} {l m : List Nat} {ys : List Str}
theorem ev_neLR (h1 : EvLR ta σ H (ys.map V.str)) (h2 : EvLR tb σ H (ys.map V.str)) (ok : ∀ y ∈ ys, PyData.strOk y = true) : Ev (tOp (rNeD K) ta tb) σ H (.bl false) := fun H1 e Q q =>
  h1 H1 e _ fun p H2 e2 hp => h2 H2 (e.trans e2) _ fun r H3 e3 hr => ⟨_, _, .lst (SqL.of (e3 _ _ hp)) (dp_strs ys), .lst (SqL.of hr) (dp_strs ys), (plain_strs ys ok).2, (plain_strs ys ok).2, by
    rw [(plain_strs ys ok).1]
    exact q H3 (e2.trans e3)⟩
theorem ev_eqLR (h1 : EvLR ta σ H (ys.map V.str)) (h2 : EvLR tb σ H (ys.map V.str)) (ok : ∀ y ∈ ys, PyData.strOk y = true) : Ev (tOp (rEqD K) ta tb) σ H (.bl true) := fun H1 e Q q =>
  h1 H1 e _ fun p H2 e2 hp => h2 H2 (e.trans e2) _ fun r H3 e3 hr => ⟨_, _, .lst (SqL.of (e3 _ _ hp)) (dp_strs ys), .lst (SqL.of hr) (dp_strs ys), (plain_strs ys ok).2, (plain_strs ys ok).2, by
    rw [(plain_strs ys ok).1]
    exact q H3 (e2.trans e3)⟩
theorem lr_exch (h : EvA tA σ H [.ref a, .str (stL l)]) (ht : TabAt C H a fs ms) (ro : RuleOk fs ms) (h1 : 1 ≤ l.length) (h2 : l.length ≤ 60) (ok : ExOk fs ms l ys) : EvLR (tCall (spExch C) [] E0 tA) σ H (ys.map V.str) := fun H1 e Q q =>
  h H1 e _ fun H2 e2 => ⟨a, fs, ms, l, rfl, ht.same (e.trans e2), ro, h1, h2, fun p zs H3 np e3 hp z1 z2 z3 _ => by
    rw [ExOk.one ⟨z1, z2, z3⟩ ok] at hp
    exact q p H3 (e2.trans e3) hp⟩
/-- a word that is among the exchanges of another one -/
theorem ev_inExch (hw : Ev ta σ H (.str (stL m))) (h : EvA tA σ H [.ref a, .str (stL l)]) (ht : TabAt C H a fs ms) (ro : RuleOk fs ms) (h1 : 1 ≤ l.length) (h2 : l.length ≤ 60) (hm : Exch fs ms l m) : Ev (tOp (rIn K true) ta (tCall (spExch C) [] E0 tA)) σ H (.bl false) := fun H1 e Q q =>
  hw H1 e _ fun H2 e2 => h H2 (e.trans e2) _ fun H3 e3 => ⟨a, fs, ms, l, rfl, ht.same ((e.trans e2).trans e3), ro, h1, h2, fun p zs H4 np e4 hp z1 z2 z3 _ => by
    have hin : inV (.str (stL m)) (zs.map V.str) = true := by
      unfold inV
      rw [List.any_map, List.any_eq_true]
      refine ⟨stL m, (z3 _).mpr (by rw [stL_codes]; exact hm), ?_⟩
      show (stL m == stL m) = true
      exact beq_self_eq_true _
    refine ⟨p, _, rfl, .inl (sq_of hp), rfl, ?_, ?_⟩
    · rw [List.all_map, List.all_eq_true]
      intro x _
      rfl
    · rw [hin]
      exact q H4 ((e2.trans e3).trans e4)⟩
theorem el_slR {xs : List V} {te : TE} {tl th : TO} {lo hi : Option Int} (h : EvL te σ H xs) (h1 : ∀ H', Ex H H' → EvO tl σ H' lo) (h2 : ∀ H', Ex H H' → EvO th σ H' hi) : EvL (tSl (rSlL K) te tl th) σ H (cutV xs lo hi) := fun H1 e Q q =>
  h H1 e _ fun p H2 _ e2 hp => h1 H2 (e.trans e2) H2 (Ex.refl _) _ fun H3 e3 => h2 H3 ((e.trans e2).trans e3) H3 (Ex.refl _) _ fun H4 e4 => ⟨p, xs, rfl, sq_of ((e3.trans e4) _ _ hp), fun r nr => q r _ (fresh_back ((e2.trans e3).trans e4) nr) (((e2.trans e3).trans e4).trans (Ex.new nr)) upd_same⟩
end
theorem cutV_mem {xs : List V} {lo hi : Option Int} {x : V} (h : x ∈ cutV xs lo hi) : x ∈ xs := List.mem_of_mem_drop (List.mem_of_mem_take h)
theorem But1.tr {b : Addr} {H H1 H2 : Hp} (x : But1 b H H1) (y : But1 b H1 H2) : But1 b H H2 := fun p u ne e => y p u ne (x p u ne e)
theorem But1.of {b : Addr} {H H1 : Hp} (x : Same H H1) : But1 b H H1 := fun p u _ e => x p u e
theorem TabAt.but {C a b : Addr} {H H1 : Hp} {fs : Fds} {ms : Mks} {n : Nat} (h : TabAt C H a fs ms) (hb : BagAt H b n) (x : But1 b H H1) : TabAt C H1 a fs ms := by
  obtain ⟨dx, p, q, h1, h2, h3⟩ := h
  obtain ⟨d, y, c, e, _⟩ := hb
  exact ⟨dx, p, q, x _ _ (ne_of h1 e (by intro z; cases z)) h1, x _ _ (ne_of h2 e (by intro z; cases z)) h2, x _ _ (ne_of h3 e (by intro z; cases z)) h3⟩
theorem nodup_len : ∀ {l m : List Nat}, l.Nodup → (∀ c ∈ l, c ∈ m) → l.length ≤ m.length
  | [], _, _, _ => Nat.zero_le _
  | c :: r, m, nd, h => by
    obtain ⟨n1, n2⟩ := List.nodup_cons.mp nd
    have hc := h c (List.mem_cons_self ..)
    have ih := nodup_len (m := m.erase c) n2 fun d hd => (List.mem_erase_of_ne (fun e => n1 (by rw [← e]; exact hd))).mpr (h d (List.mem_cons_of_mem _ hd))
    have := List.length_erase_of_mem hc
    have := List.length_pos_of_mem hc
    rw [List.length_cons]
    omega
theorem few_folds {fs : Fds} (nd : (fs.map (·.1)).Nodup) (h : ∀ p ∈ fs, p.1 ∈ FK) : fs.length ≤ 7 := by
  have h1 : (fs.map (·.1)).length ≤ FK.length := nodup_len nd fun c hc => by
    obtain ⟨p, hp, rfl⟩ := List.mem_map.mp hc
    exact h p hp
  rw [List.length_map, fk_facts.2.2.2.1] at h1
  exact h1
/-- a new table of two dicts -/
def EvT1 (C : Addr) (te : TE) (σ : L2.St) (H : Hp) (fs : Fds) (ms : Mks) : Prop := ∀ H1, Ex H H1 → ∀ Q : VK, (∀ x H2, H1 x = none → Ex H1 H2 → TabAt C H2 x fs ms → Q (.ref x) H2) → te σ H1 Q
def EvDK (te : TE) (σ : L2.St) (H : Hp) (kvs : List (Key × V)) : Prop := ∀ H1, Ex H H1 → ∀ Q : VK, (∀ p H2, Ex H1 H2 → H2 p = some (.dK kvs) → Q (.ref p) H2) → te σ H1 Q
theorem EvDK.of {te : TE} {σ : L2.St} {H : Hp} {p : Addr} {kvs : List (Key × V)} (h : Ev te σ H (.ref p)) (hp : H p = some (.dK kvs)) : EvDK te σ H kvs := fun H1 e Q q => h H1 e Q fun H2 e2 => q p H2 e2 ((e.trans e2) _ _ hp)
theorem edk_disp2 {tk tv tk2 tv2 : TE} {σ : L2.St} {H : Hp} {z z2 : Str} {v v2 : V} (ne : z ≠ z2) (h1 : Ev tk σ H (.str z)) (h2 : Ev tv σ H v) (h3 : Ev tk2 σ H (.str z2)) (h4 : Ev tv2 σ H v2) : EvDK (tDisp [(tk, tv), (tk2, tv2)]) σ H [(Sum.inr z, v), (Sum.inr z2, v2)] := fun H1 e Q q => fun p np => by
  have e0 := e.trans (Ex.new (o := .dK []) np)
  refine h1 _ e0 _ fun H2 e2 => h2 _ (e0.trans e2) _ fun H3 e3 => h3 _ (e0.trans (e2.trans e3)) _ fun H4 e4 => h4 _ (e0.trans ((e2.trans e3).trans e4)) _ fun H5 e5 => ⟨?_, [(Sum.inr z, v), (Sum.inr z2, v2)], rfl, (by show 2 ≤ 15; decide), ?_⟩
  · exact (e2.trans (e3.trans (e4.trans e5))) _ _ upd_same
  · have mk : mergeK [] [((Sum.inr z : Key), v), (Sum.inr z2, v2)] = [(Sum.inr z, v), (Sum.inr z2, v2)] := by
      have : ¬ ((Sum.inr z : Key) = Sum.inr z2) := fun e => ne (Sum.inr.inj e)
      simp [mergeK, putK, this]
    rw [mk]
    exact q p _ (Ex.mut ((Ex.new np).trans (e2.trans (e3.trans (e4.trans e5)))) np) upd_same
theorem em_make {C : Addr} {ta tb : TE} {σ : L2.St} {H : Hp} {fs : Fds} {ms : Mks} (h1 : EvDK ta σ H (kF fs)) (h2 : EvDK tb σ H (kM ms)) (ro : RuleOk fs ms) : EvT1 C (tMake C (spInitT C) [] E0 (tCons ta (tCons tb tNil))) σ H fs ms := fun H1 e Q q =>
  h1 H1 e _ fun df H2 e2 hf => h2 H2 (e.trans e2) _ fun dm H3 e3 hm => fun x dx nx ndx nex => by
    have s4m : ∀ {p : Addr} {o : HO}, H3 p = some o → (upd (upd H3 dx (.own x)) x (.ins C dx [])) p = some o := fun e => by rw [upd_ne (ne_of_none e nx), upd_ne (ne_of_none e ndx)]; exact e
    exact ⟨x, dx, df, dm, fs, ms, rfl, upd_same, s4m (e3 _ _ hf), s4m hm, ro, fun H5 p pq np nq npq hx hp hq keep => ⟨rfl, q x H5 (fresh_back (e2.trans e3) nx) ((e2.trans e3).trans fun p o e => keep p o (ne_of_none e nx) (s4m e)) ⟨dx, p, pq, hx, hp, hq⟩⟩⟩
theorem q_asgT1 {C : Addr} {te : TE} {tz : TS} {D : Ends} {σ : L2.St} {H : Hp} {i : Nat} {fs : Fds} {ms : Mks} (h : EvT1 C te σ H fs ms) (k : ∀ p H1, H p = none → Ex H H1 → TabAt C H1 p fs ms → tz D (σ.set i (some (.ref p))) H1) : tSeq (tAsg te (gName i)) tz D σ H := h H (Ex.refl H) _ fun p H1 n e ht => k p H1 n e ht
/-! ### what is held up as a way -/
abbrev s_holds : Stmt := top 43
abbrev sc_holds_N : List Str := ["table", "one", "other", "thing", "said", "shown"]
theorem sc_holds : FnScope sc_holds_N ["table", "one", "other", "thing"] (defScope s_holds) := ⟨rfl, rfl, rfl, by decide +kernel, rfl, by decide +kernel, by decide +kernel⟩
abbrev s__is_way : Stmt := top 45
abbrev sc__is_way_N : List Str := ["table", "one", "other", "thing", "at"]
theorem sc__is_way : FnScope sc__is_way_N ["table", "one", "other", "thing"] (defScope s__is_way) := ⟨rfl, rfl, rfl, by decide +kernel, rfl, by decide +kernel, by decide +kernel⟩
structure Shown (fs : Fds) (ms : Mks) (o t : List Nat) (ws : List (List Nat)) : Prop where
  hd : ws[0]? = some o
  la : ws.reverse[0]? = some t
  sz : ∀ x ∈ ws, 1 ≤ x.length ∧ x.length ≤ 60 ∧ ∀ c ∈ x, sgn c = true
  ln : ws.length ≤ 50000
theorem Way.shown {fs fs' : Fds} {ms ms' : Mks} {M N : Nat} {o t : List Nat} {ws : List (List Nat)} (h : Way fs ms M N o t ws) (hM : M ≤ 60) (hN : N ≤ 50000) : Shown fs' ms' o t ws :=
  ⟨h.hd, h.la, fun x hx => ⟨(h.sz x hx).1, Nat.le_trans (h.sz x hx).2.1 hM, (h.sz x hx).2.2⟩, Nat.le_trans h.ln hN⟩
/-- a step that is none -/
def Gap (fs : Fds) (ms : Mks) (ws : List (List Nat)) : Prop := ∃ (i : Nat) (a b : List Nat), ws[i]? = some a ∧ ws[i + 1]? = some b ∧ ¬ Exch fs ms a b
def Told (fs : Fds) (ms : Mks) (ws : List (List Nat)) (H : Hp) (Q : VK) : Prop := (Steps (Exch fs ms) ws ∧ RetV (.bl true) H Q) ∨ (Gap fs ms ws ∧ RetV (.bl false) H Q)
def spIsW (C : Addr) : Sp := fun vs H Q _ => ∃ a fs ms o t p ws, vs = [.ref a, .str (stL o), .str (stL t), .ref p] ∧ TabAt C H a fs ms ∧ RuleOk fs ms ∧ H p = some (.lst (txs ws)) ∧ Shown fs ms o t ws ∧ Told fs ms ws H Q
def spHolds (C : Addr) : Sp := fun vs H Q _ => ∃ a fs ms o t r, vs = [.ref a, .str (stL o), .str (stL t), .ref r] ∧ TabAt C H a fs ms ∧ RuleOk fs ms ∧
  ((∃ p ws, H r = some (.tup [.str "one", .ref p]) ∧ H p = some (.lst (txs ws)) ∧ Shown fs ms o t ws ∧ Told fs ms ws H Q) ∨
   ∃ n : Nat, H r = some (.tup [.str "two", .int (n : Int)]) ∧ Wd o 40 ∧ Wd t 40 ∧ Parts (keyL fs ms o) (keyL fs ms t) n ∧ RetV (.bl true) H Q)
theorem sp_num {H : Hp} {i : Int} : SpV spNum ([.int i] ++ []) H (.bl true) := fun H1 e Q q _ => ⟨_, rfl, .o (.int i), q H1 (Ex.refl _)⟩
theorem ev_noExch {K : Fg} {C a : Addr} {ta : TE} {tA : TA} {σ : L2.St} {H : Hp} {fs : Fds} {ms : Mks} {l m : List Nat} (hw : Ev ta σ H (.str (stL m))) (h : EvA tA σ H [.ref a, .str (stL l)]) (ht : TabAt C H a fs ms) (ro : RuleOk fs ms) (h1 : 1 ≤ l.length) (h2 : l.length ≤ 60) (hm : ¬ Exch fs ms l m) : Ev (tOp (rIn K true) ta (tCall (spExch C) [] E0 tA)) σ H (.bl true) := fun H1 e Q q =>
  hw H1 e _ fun H2 e2 => h H2 (e.trans e2) _ fun H3 e3 => ⟨a, fs, ms, l, rfl, ht.same ((e.trans e2).trans e3), ro, h1, h2, fun p zs H4 np e4 hp z1 z2 z3 _ => by
    have hin : inV (.str (stL m)) (zs.map V.str) = false := by
      unfold inV
      rw [List.any_map, List.any_eq_false]
      intro z hz e
      have e : z = stL m := by
        have e : (z == stL m) = true := e
        exact eq_of_beq e
      exact hm (by have := (z3 z).mp hz; rw [e, stL_codes] at this; exact this)
    refine ⟨p, _, rfl, .inl (sq_of hp), rfl, ?_, ?_⟩
    · rw [List.all_map, List.all_eq_true]
      intro x _
      rfl
    · rw [hin]
      exact q H4 ((e2.trans e3).trans e4)⟩
theorem ev_isiT {K : Fg} {tf : TE} {σ : L2.St} {H : Hp} {p : Addr} {xs : List V} (h : Ev tf σ H (.ref p)) (hp : H p = some (.tup xs)) : Ev (tCB (rIsi K) (tCons tf (tCons (tC (.ty "tuple")) tNil))) σ H (.bl true) := fun H1 e Q q =>
  h H1 e _ fun H2 e2 => ⟨.ref p, .ty "tuple", .type "tuple", .type "tuple", true, rfl, .ty "tuple", .base (.tup ((e.trans e2) _ _ hp)), by unfold PySem.W.kitOne; simp, q H2 e2⟩
theorem ev_lenT {K : Fg} {ta : TE} {σ : L2.St} {H : Hp} {p : Addr} {xs : List V} (ha : Ev ta σ H (.ref p)) (h : H p = some (.tup xs)) : Ev (tCB (fun xs H Q => ∃ a ys, xs = [V.ref a] ∧ (SqL K H a ys ∨ SqT K H a ys) ∧ Q (.int (ys.length : Int)) H) (tCons ta tNil)) σ H (.int (xs.length : Int)) := fun H1 e Q q =>
  ha H1 e _ fun H2 e2 => ⟨p, xs, rfl, Or.inr (st_of ((e.trans e2) _ _ h)), q H2 e2⟩
theorem eqv_strs : ∀ xs ys : List Str, PyData.eqvAll (xs.map PyData.str) (ys.map PyData.str) = decide (xs = ys)
  | [], [] => by simp [PyData.eqvAll]
  | [], _ :: _ => by simp [PyData.eqvAll]
  | _ :: _, [] => by simp [PyData.eqvAll]
  | x :: xs, y :: ys => by
    have e : PyData.eqvAll ((x :: xs).map PyData.str) ((y :: ys).map PyData.str) = (PyData.eqv (.str x) (.str y) && PyData.eqvAll (xs.map PyData.str) (ys.map PyData.str)) := by
      simp only [List.map_cons]
      rw [PyData.eqvAll]
    have e2 : PyData.eqv (.str x) (.str y) = (x == y) := by simp only [PyData.eqv]
    rw [e, eqv_strs xs ys, e2]
    by_cases h1 : x = y
    · by_cases h2 : xs = ys
      · simp [h1, h2]
      · simp [h1, h2]
    · have : (x == y) = false := beq_eq_false_iff_ne.mpr h1
      simp [h1, this]
theorem eqv_lists (xs ys : List Str) : PyData.eqv (.list (xs.map PyData.str)) (.list (ys.map PyData.str)) = decide (xs = ys) := by
  have e : PyData.eqv (.list (xs.map PyData.str)) (.list (ys.map PyData.str)) = PyData.eqvAll (xs.map PyData.str) (ys.map PyData.str) := by simp only [PyData.eqv]
  rw [e, eqv_strs]
/-- lists of texts compared -/
theorem ev_eqTx {K : Fg} {ta tb : TE} {σ : L2.St} {H : Hp} {xs ys : List Str} (h1 : EvLR ta σ H (xs.map V.str)) (h2 : EvLR tb σ H (ys.map V.str)) (ok1 : ∀ y ∈ xs, PyData.strOk y = true) (ok2 : ∀ y ∈ ys, PyData.strOk y = true) : Ev (tOp (rEqD K) ta tb) σ H (.bl (decide (xs = ys))) := fun H1 e Q q =>
  h1 H1 e _ fun p H2 e2 hp => h2 H2 (e.trans e2) _ fun r H3 e3 hr => ⟨_, _, .lst (SqL.of (e3 _ _ hp)) (dp_strs xs), .lst (SqL.of hr) (dp_strs ys), (plain_strs xs ok1).2, (plain_strs ys ok2).2, by
    rw [eqv_lists]
    exact q H3 (e2.trans e3)⟩
theorem ev_neTx {K : Fg} {ta tb : TE} {σ : L2.St} {H : Hp} {xs ys : List Str} (h1 : EvLR ta σ H (xs.map V.str)) (h2 : EvLR tb σ H (ys.map V.str)) (ok1 : ∀ y ∈ xs, PyData.strOk y = true) (ok2 : ∀ y ∈ ys, PyData.strOk y = true) : Ev (tOp (rNeD K) ta tb) σ H (.bl (!decide (xs = ys))) := fun H1 e Q q =>
  h1 H1 e _ fun p H2 e2 hp => h2 H2 (e.trans e2) _ fun r H3 e3 hr => ⟨_, _, .lst (SqL.of (e3 _ _ hp)) (dp_strs xs), .lst (SqL.of hr) (dp_strs ys), (plain_strs xs ok1).2, (plain_strs ys ok2).2, by
    rw [eqv_lists]
    exact q H3 (e2.trans e3)⟩
theorem txs_ok {ws : List (List Nat)} (h : ∀ x ∈ ws, ∀ c ∈ x, sgn c = true) : ∀ y ∈ ws.map stL, PyData.strOk y = true := fun y hy => by
  obtain ⟨x, hx, rfl⟩ := List.mem_map.mp hy
  exact str_ok fun c hc => h x hx c (by rw [stL_codes] at hc; exact hc)
section
variable {P : Program} {w : World} {K : Fg} {mg : Str → Option Value} {base : Heap} {A : TabA}
theorem ok__is_way {f f1 : Addr} {fd fd1 : FuncData} {k : Nat} (F : Fun K "_is_way" "_is_way" s__is_way f fd) (T : Txt K mg) (C_exchanges : Cal P w K mg base CX0 k "exchanges" ["table", "word"] (spExch A.C) f1 fd1) : FnOk P w K mg base CX0 (k + 1) f fd ["table", "one", "other", "thing"] (spIsW A.C) := by
  refine F.ok sc__is_way (fun vs H Q E h => ?_) (fun cdv A' outer s H vs Q E hr h => ?_)
  · obtain ⟨a, fs, ms, o, t, p, ws, rfl, _⟩ := h
    rfl
  · obtain ⟨a, fs, ms, o, t, p, ws, rfl, ht, ro, hp, sh, h⟩ := h
    refine ⟨_, (pss_cons (ps_if (PW.pt (pw_or (pt_not (pt_val (pe_callB call_isi (by rfl) T.b_isinstance (by decide +kernel) (pa_cons (pv 3) (pa_cons (pe_bltn (v := .ty "list") (by rfl) T.b_list (by decide +kernel) rfl) pa_nil))))) (pw_or1 (pt_cmpR (op_eqD hr.units) (pv 3) (pe_lstS pa_nil) (nomark _))))) (pss_one (ps_ret pe_bl)) pss_nil)
      (pss_cons (ps_if (PW.pt (pw_or (pt_cmpR op_ne (pe_ix ix_list (pv 3) pe_int (fun _ _ => rfl)) (pv 1) (nomark _)) (pw_or1 (pt_cmpR op_ne (pe_ix ix_list (pv 3) (pe_un un_neg pe_int) (fun _ _ => rfl)) (pv 2) (nomark _))))) (pss_one (ps_ret pe_bl)) pss_nil)
      (pss_cons (ps_for PassesOwn.never rfl (pi_range1 (by rfl) T.b_range (pa_cons (pe_op op_sub (pe_callB call_len_seq (by rfl) T.b_len PySem.boot_len (pa_cons (pv 3) pa_nil)) pe_int) pa_nil)) (pg_name (i := 4) sc__is_way.nd rfl (Or.inl rfl)) (pss_one (ps_if (pt_cmpR op_notIn_seq (pe_ix ix_list (pv 3) (pe_op op_add (pv 4) pe_int) (fun _ _ => rfl)) (pe_call C_exchanges.ok hr (by rfl) C_exchanges.mg C_exchanges.kp C_exchanges.b .nil pass0 (pa_cons (pv 0) (pa_cons (pe_ix ix_list (pv 3) (pv 4) (fun _ _ => rfl)) pa_nil))) (by rfl)) (pss_one (ps_ret pe_bl)) pss_nil)))
      (pss_one (ps_ret pe_bl))))), ?_⟩
    obtain ⟨d0, e0⟩ : ∃ d, ws = o :: d := by
      have h2 := sh.hd
      cases ws with
      | nil => cases h2
      | cons y r => cases h2; exact ⟨r, rfl⟩
    obtain ⟨d1, e1⟩ : ∃ d, ws = d ++ [t] := by
      have h2 := sh.la
      cases hr : ws.reverse with
      | nil => rw [hr] at h2; cases h2
      | cons y r =>
        rw [hr] at h2
        cases h2
        exact ⟨r.reverse, by rw [← List.reverse_reverse ws, hr, List.reverse_cons]⟩
    have lw := sh.ln
    have q0 : txs ws = .str (stL o) :: txs d0 := by rw [e0]; rfl
    have q1 : txs ws = txs d1 ++ [V.str (stL t)] := by rw [e1]; exact txs_app ..
    refine q_when (b := false) (et_is (et_or (et_not (et_B (ev_isiL (ev_var rfl) hp))) fun _ => et_test (ev_eqTx (ys := []) (.of (ev_var rfl) (by rw [← txs_str]; exact hp)) (.ofM (em_lst ea_nil (by decide))) (txs_ok fun x hx => (sh.sz x hx).2.2) (fun y hy => nomatch hy))) (by rw [e0]; rfl)) (fun z => nomatch z) fun _ H1 s1 => ?_
    have hp1 := s1 _ _ hp
    have p0 := hp1
    have p1 := hp1
    rw [q0] at p0
    rw [q1] at p1
    refine q_when (b := false) (et_is (et_or (et_test (ev_neS (ev_op (ev_var rfl) ev_c (rv_ixL (sq_of p0) (atI_nat (j := 0) rfl))) (ev_var rfl))) fun _ => et_test (ev_neS (ev_op (ev_var rfl) (ev_un ev_c ru_neg) (rv_ixL (sq_of p1) (atI_fin _ _))) (ev_var rfl))) (by simp)) (fun z => nomatch z) fun _ H2 s2 => ?_
    have s12 := s1.trans s2
    have wl : ws.length = d1.length + 1 := by rw [e1, List.length_append]; rfl
    refine q_forR1 (n := ((ws.length - 1 : Nat) : Int)) (ea_cons (ev_is (ev_op (ev_lenL (xs := txs ws) (ev_var rfl) (sq_of (s2 _ _ hp1))) ev_c rv_I0) (by rw [txs_len]; congr 1; omega)) ea_nil) (by omega)
      (fun i σ' G => ∃ y, σ' = [some (.ref a), some (.str (stL o)), some (.str (stL t)), some (.ref p), y] ∧ Ex H G ∧ ∀ (j : Nat) (x z : List Nat), j < i → ws[j]? = some x → ws[j + 1]? = some z → Exch fs ms x z)
      (fun H3 e3 => ⟨_, rfl, s12.trans e3, fun j x z hj => absurd hj (Nat.not_lt_zero _)⟩) ?_ ?_
    · rintro i σ' G hi ⟨y, rfl, eG, ok⟩
      have hi' : i + 1 < ws.length := by omega
      obtain ⟨x, hx⟩ : ∃ x, ws[i]? = some x := ⟨_, List.getElem?_eq_getElem (by omega)⟩
      obtain ⟨z, hz⟩ : ∃ z, ws[i + 1]? = some z := ⟨_, List.getElem?_eq_getElem hi'⟩
      have hpG := eG _ _ hp
      have sx := sh.sz x (List.mem_of_getElem? hx)
      have ix : ∀ {G2 : Hp}, Ex G G2 → Ev (tOp (rIxL K) (tVar 3) (tVar 4)) [some (.ref a), some (.str (stL o)), some (.str (stL t)), some (.ref p), some (.int (i : Int))] G2 (.str (stL x)) := fun e => ev_op (ev_var rfl) (ev_var rfl) (rv_ixL (sq_of (e _ _ hpG)) (atI_nat (txs_get hx)))
      have iz : Ev (tOp (rIxL K) (tVar 3) (tOp (rI0 fun i j => .int (i + j)) (tVar 4) (tC (.int 1)))) [some (.ref a), some (.str (stL o)), some (.str (stL t)), some (.ref p), some (.int (i : Int))] G (.str (stL z)) := ev_op (ev_var rfl) (ev_addN (n := 1) (ev_var rfl) ev_c) (rv_ixL (sq_of hpG) (atI_nat (txs_get hz)))
      by_cases hE : Exch fs ms x z
      · refine s_when (b := false) (et_test (ev_inExch iz (ea_cons (ev_var rfl) (ea_cons (ix (Ex.refl _)) ea_nil)) (ht.same eG) ro sx.1 sx.2.1 hE)) (fun z => nomatch z) fun _ G2 e2 => ⟨_, rfl, eG.trans e2, fun j u v hj hu hv => ?_⟩
        by_cases hji : j < i
        · exact ok j u v hji hu hv
        · have : j = i := by omega
          subst this
          rw [hx] at hu
          rw [hz] at hv
          cases hu
          cases hv
          exact hE
      · refine s_when (b := true) (et_test (ev_noExch iz (ea_cons (ev_var rfl) (ea_cons (ix (Ex.refl _)) ea_nil)) (ht.same eG) ro sx.1 sx.2.1 hE)) (fun _ G2 e2 => s_ret ev_c fun G3 e3 => ?_) fun z => nomatch z
        rcases h with ⟨st, _⟩ | ⟨_, q⟩
        · exact absurd (st i x z hx hz) hE
        · exact q G3 ((eG.trans e2).trans e3)
    · rintro σ' G ⟨y, rfl, eG, ok⟩
      refine s_ret ev_c fun G2 e2 => ?_
      rcases h with ⟨_, q⟩ | ⟨⟨i, x, z, hx, hz, hE⟩, _⟩
      · exact q G2 (eG.trans e2)
      · exact absurd (ok i x z (by have := (List.getElem?_eq_some_iff.mp hz).1; omega) hx hz) hE
theorem ok_holds {f f1 f2 f3 : Addr} {fd fd1 fd2 fd3 fd4 : FuncData} {k : Nat} (F : Fun K "holds" "holds" s_holds f fd) (T : Txt K mg) (TT : TabT K mg A) (C__is_way : Cal P w K mg base CX0 k "_is_way" ["table", "one", "other", "thing"] (spIsW A.C) f1 fd1)
    (C_is_number : Cal P w K mg base CX0 k "is_number" ["thing"] spNum f2 fd2) (C__first_difference : Cal P w K mg base CX0 k "_first_difference" ["one", "other"] spDiff f3 fd3) (C_call : CalM P w K mg base (L2.CX P w) k ["self", "word"] (spCallT A.C A.CW) A.gc fd4) :
    FnOk P w K mg base CX0 (k + 1) f fd ["table", "one", "other", "thing"] (spHolds A.C) := by
  refine F.ok sc_holds (fun vs H Q E h => ?_) (fun cdv A' outer s H vs Q E hr h => ?_)
  · obtain ⟨a, fs, ms, o, t, r, rfl, _⟩ := h
    rfl
  · obtain ⟨a, fs, ms, o, t, r, rfl, ht, ro, h⟩ := h
    refine ⟨_, (pss_cons (ps_if (PW.pt (pw_or (pt_not (pt_val (pe_callB call_isi (by rfl) T.b_isinstance (by decide +kernel) (pa_cons (pv 3) (pa_cons (pe_bltn (v := .ty "tuple") (by rfl) T.b_tuple (by decide +kernel) rfl) pa_nil))))) (pw_or1 (pt_cmpR op_ne (pe_callB call_len_seq (by rfl) T.b_len PySem.boot_len (pa_cons (pv 3) pa_nil)) pe_int (nomark _))))) (pss_one (ps_ret pe_bl)) pss_nil)
      (pss_cons (ps_asg (pv 3) (pg_tup (by rfl) (pgs_cons (pg_name (i := 4) sc_holds.nd rfl (Or.inl rfl)) (pgs_cons (pg_name (i := 5) sc_holds.nd rfl (Or.inl rfl)) pgs_nil))))
      (pss_cons (ps_if (pt_cmpR op_eq (pv 4) (pe_gx (by rfl) T.c_ONE) (nomark _)) (pss_one (ps_ret (pe_call C__is_way.ok hr (by rfl) C__is_way.mg C__is_way.kp C__is_way.b .nil pass0 (pa_cons (pv 0) (pa_cons (pv 1) (pa_cons (pv 2) (pa_cons (pv 5) pa_nil))))))) pss_nil)
      (pss_cons (ps_if (pt_cmpR op_eq (pv 4) (pe_gx (by rfl) T.c_TWO) (nomark _)) (pss_one (ps_ret (pe_and (pe_call C_is_number.ok hr (by rfl) C_is_number.mg C_is_number.kp C_is_number.b .nil pass0 (pa_cons (pv 5) pa_nil)) (pe_one (pe_cmpR op_eq (pv 5) (pe_call C__first_difference.ok hr (by rfl) C__first_difference.mg C__first_difference.kp C__first_difference.b .nil pass0 (pa_cons (pe_callOS (E := fun _ => E0) (pv 0) TT.co C_call.r hr passLS (pa_cons (pv 1) pa_nil)) (pa_cons (pe_callOS (E := fun _ => E0) (pv 0) TT.co C_call.r hr passLS (pa_cons (pv 2) pa_nil)) pa_nil))) (nomark _)))))) pss_nil)
      (pss_one (ps_ret pe_bl)))))), ?_⟩
    rcases h with ⟨p, ws, hr0, hp, sh, h⟩ | ⟨n, hr0, wo, wt, pa, q⟩
    · refine q_when (b := false) (et_is (et_or (et_not (et_B (ev_isiT (ev_var rfl) hr0))) fun _ => et_test (ev_neI (ev_lenT (ev_var rfl) hr0) ev_c)) rfl) (fun z => nomatch z) fun _ H1 e1 => ?_
      refine ⟨_, rfl, r, _, rfl, st_of (e1 _ _ hr0), rfl, _, _, rfl, _, _, rfl, rfl, ?_⟩
      refine q_when (b := true) (et_is (et_test (ev_eqS (ev_var rfl) ev_c)) rfl) (fun _ H2 e2 => ?_) fun z => nomatch z
      have e12 := e1.trans e2
      refine ⟨_, rfl, _, rfl, _, rfl, _, rfl, a, fs, ms, o, t, p, ws, rfl, ht.same e12, ro, e12 _ _ hp, sh, ?_⟩
      exact h.imp (fun ⟨x, q⟩ => ⟨x, fun H3 e3 => q H3 (e12.trans e3)⟩) fun ⟨x, q⟩ => ⟨x, fun H3 e3 => q H3 (e12.trans e3)⟩
    · refine q_when (b := false) (et_is (et_or (et_not (et_B (ev_isiT (ev_var rfl) hr0))) fun _ => et_test (ev_neI (ev_lenT (ev_var rfl) hr0) ev_c)) rfl) (fun z => nomatch z) fun _ H1 e1 => ?_
      refine ⟨_, rfl, r, _, rfl, st_of (e1 _ _ hr0), rfl, _, _, rfl, _, _, rfl, rfl, ?_⟩
      have ne2 : ¬ (Str.ofString "two" = Str.ofString "one") := by decide +kernel
      refine q_when (b := false) (et_is (et_test (ev_eqS (ev_var rfl) ev_c)) (decide_eq_false ne2)) (fun z => nomatch z) fun _ H2 e2 => ?_
      refine q_when (b := true) (et_is (et_test (ev_eqS (ev_var rfl) ev_c)) (decide_eq_true rfl)) (fun _ H3 e3 => ?_) fun z => nomatch z
      have e13 := (e1.trans e2).trans e3
      have ht3 := ht.same e13
      have c1 := (keyL_ok ro wo).1.le
      have c2 := (keyL_ok ro wt).1.le
      refine s_ret (ev_is (ev_andV (a := true) (b := true) (ev_call (ea_cons (ev_var rfl) ea_nil) sp_num) fun _ => ev_is (ev_eqI (ev_var rfl) (ev_call (ea_cons (ev_callO (ev_var rfl) (ea_cons (ev_var rfl) ea_nil) (tab_ins ht3) (sp_callT ht3 ro wo)) (ea_cons (ev_callO (ev_var rfl) (ea_cons (ev_var rfl) ea_nil) (tab_ins ht3) (sp_callT ht3 ro wt)) ea_nil)) (sp_diff (by omega) (by omega) pa))) (by rw [decide_eq_true rfl])) rfl) fun H4 e4 => q H4 (e13.trans e4)
end
end Nm


set_option Elab.async false
set_option linter.all false
set_option maxRecDepth 100000
set_option maxHeartbeats 4000000
namespace Nm
open PySem PySem.Spec PyProof.Rows L2 Evl
/-! ### the law's own exchanges -/
abbrev s__law_exchanges : Stmt := top 52
abbrev sc__law_exchanges_N : List Str := ["_law_rule_here", "_law_word_here", "_law_folds", "_law_marks", "_law_found", "_law_at", "_law_many", "_law_piece", "_law_ahead", "_law_behind", "_law_signs", "_law_sign", "_law_both"]
theorem sc__law_exchanges : FnScope sc__law_exchanges_N ["_law_rule_here", "_law_word_here"] (defScope s__law_exchanges) := ⟨rfl, rfl, rfl, by decide +kernel, rfl, by decide +kernel, by decide +kernel⟩
def spLEx : Sp := fun vs H Q _ => ∃ t pf pm fs ms l, vs = [.ref t, .str (stL l)] ∧ H t = some (.tup [.ref pf, .ref pm]) ∧ H pf = some (.dK (kF fs)) ∧ H pm = some (.dK (kM ms)) ∧ RuleOk fs ms ∧ fs.length ≤ 7 ∧ l.length ≤ 60 ∧
  ∀ p xs H2, H p = none → Ex H H2 → H2 p = some (.lst (txs xs)) → (∀ x, x ∈ xs ↔ Exch fs ms l x) → xs.length ≤ 2000 → Q (.ref p) H2
/-- a list of texts of our own -/
structure LX (H0 G : Hp) (p : Addr) (xs : List (List Nat)) : Prop where
  fr : H0 p = none
  ex : Ex H0 G
  at' : G p = some (.lst (txs xs))
theorem LX.on {H0 G G' : Hp} {p : Addr} {xs : List (List Nat)} (h : LX H0 G p xs) (e : Ex G G') : LX H0 G' p xs := ⟨h.fr, h.ex.trans e, e _ _ h.at'⟩
theorem LX.is {H0 G : Hp} {p : Addr} {xs ys : List (List Nat)} (h : LX H0 G p xs) (e : xs = ys) : LX H0 G p ys := e ▸ h
section
variable {K : Fg} {H0 H : Hp} {p : Addr} {xs zs : List (List Nat)} {z : List Nat} {t : TT} {tl te tb : TE} {tz : TS} {D : Ends} {σ : L2.St} {b : Bool}
theorem s_whenApp (L : LX H0 H p xs) (ht : EvT t σ H b) (ha : σ[4]? = some (some (.ref p))) (he : b = true → ∀ G, Ex H G → Ev te σ G (.str (stL z))) (hz : xs.length < 100000) (k : ∀ G, LX H0 G p (if b = true then xs ++ [z] else xs) → D.nx σ G) :
    tIfS t (tDrop (tBM K "list" rAppend (tVar 4) (tCons te tNil))) tNext D σ H := by
  refine s_when (b := b) ht (fun hb G e => ?_) (fun hb G e => ?_)
  · refine s_app (L.on e).at' (ev_var ha) (he hb G e) (by rw [txs_len]; exact hz) fun G2 e2 => k _ ⟨L.fr, ((L.ex.trans e).trans e2).mut L.fr, ?_⟩
    rw [upd_same, if_pos hb, txs_app]
    rfl
  · exact k G ((L.on e).is (by rw [if_neg (by rw [hb]; exact Bool.false_ne_true)]))
theorem q_whenApp (L : LX H0 H p xs) (ht : EvT t σ H b) (ha : σ[4]? = some (some (.ref p))) (he : b = true → ∀ G, Ex H G → Ev te σ G (.str (stL z))) (hz : xs.length < 100000) (k : ∀ G, LX H0 G p (if b = true then xs ++ [z] else xs) → tz D σ G) :
    tSeq (tIfS t (tDrop (tBM K "list" rAppend (tVar 4) (tCons te tNil))) tNext) tz D σ H := s_whenApp (D := { D with nx := tz D }) L ht ha he hz k
theorem q_whenCat (L : LX H0 H p xs) (ht : EvT t σ H b) (ha : σ[4]? = some (some (.ref p))) (he : b = true → ∀ G, Ex H G → EvL tb σ G (txs zs)) (hz : xs.length + zs.length ≤ 100000) (same : σ.set 4 (some (.ref p)) = σ)
    (k : ∀ G q, LX H0 G q (if b = true then xs ++ zs else xs) → tz D (σ.set 4 (some (.ref q))) G) : tSeq (tIfS t (tAsg (tOp rCat (tVar 4) tb) (gName 4)) tNext) tz D σ H := by
  refine q_when (b := b) ht (fun hb G e => ?_) (fun hb G e => ?_)
  · refine ⟨_, ha, he hb G e G (Ex.refl _) _ fun q G2 nq e2 hq => ⟨p, q, _, _, rfl, rfl, e2 _ _ (L.on e).at', hq, by rw [txs_len, txs_len, sizeLine_eq]; omega, fun r nr => k _ r ⟨?_, ?_, ?_⟩⟩⟩
    · exact fresh_back (L.ex.trans (e.trans e2)) nr
    · exact (L.ex.trans (e.trans e2)).trans (Ex.new nr)
    · rw [upd_same, if_pos hb, txs_app]
  · have := k G p ((L.on e).is (by rw [if_neg (by rw [hb]; exact Bool.false_ne_true)]))
    rw [same] at this
    exact this
/-- the keys of a dict that pass, in a new list -/
theorem q_asgKeys {d : Addr} {fs : Fds} {i j s : Nat} {vs : List Nat} (f : Nat × List Nat → Bool) (hd : H d = some (.dK (kF fs))) (hl : fs.length ≤ 1000) (hi : (wipe σ vs)[i]? = some (some (.ref d)) ∧ σ[i]? = some (some (.ref d))) (hj : ∀ x, ((wipe σ vs).set j (some x))[j]? = some (some x))
    (hw : ∀ x, wipe ((wipe σ vs).set j (some x)) vs = wipe σ vs)
    (ht : ∀ q G, Rd G d (.dK (kF fs)) → q ∈ fs → EvT t ((wipe σ vs).set j (some (.str (sgS q.1)))) G (f q)) (k : ∀ p G, H p = none → Ex H G → G p = some (.lst (sgs ((fs.filter f).map (·.1)))) → tz D (σ.set s (some (.ref p))) G) :
    tSeq (tLock (tAsg (tLc (iKeys (tVar i)) (gName j) t (tVar j) vs) (gName s))) tz D σ H := by
  refine ⟨d, .dK (kF fs), hd, trivial, fun od => ?_⟩
  refine ⟨_, hi.2, d, od, rfl, .inl ⟨kF fs, upd_same, fun Dl hD => ?_⟩⟩
  have nDd : Dl ≠ d := fun e => by rw [e, upd_same] at hD; cases hD
  have hD0 : H Dl = none := (upd_ne nDd).symm.trans hD
  refine lc_it walk_keys (fun n G => Ex (upd H d (.frz od (.dK (kF fs)))) G ∧ G Dl = some (.lst (sgs (((fs.take n).filter f).map (·.1))))) ⟨Ex.new hD, upd_same⟩ (fun n G _ p => p.1 _ _ upd_same) ?_ ?_
  · rintro n x G G' hn ⟨eG, hG⟩ ⟨rfl, ky, vy, hk, rfl⟩
    have hk' : (kF fs)[n]? = some (ky, vy) := hk
    unfold kF at hk'
    rw [List.getElem?_map] at hk'
    obtain ⟨⟨c, w⟩, hcw, ecw⟩ := Option.map_eq_some_iff.mp hk'
    cases ecw
    have hm : (c, w) ∈ fs := List.mem_of_getElem? hcw
    have hnf : n < fs.length := (List.getElem?_eq_some_iff.mp hcw).1
    have hT : (((fs.take (n + 1)).filter f).map (·.1)) = (((fs.take n).filter f).map (·.1)) ++ (if f (c, w) = true then [c] else []) := by
      rw [List.take_add_one, hcw, List.filter_append, List.map_append]
      congr 1
      by_cases hf : f (c, w) = true
      · rw [if_pos hf]
        simp [hf]
      · rw [if_neg hf]
        simp [hf]
    refine ⟨hw _, ht (c, w) G' (.inr ⟨od, eG _ _ upd_same⟩) hm G' (Ex.refl _) _ fun G2 e2 => ?_⟩
    cases hf : f (c, w) with
    | true =>
      refine iteT ⟨_, hj _, _, e2 _ _ hG, ?_, (eG.trans e2).mut hD, ?_⟩
      · rw [sgs_len, List.length_map]
        have h6 := List.length_filter_le f (fs.take n)
        rw [List.length_take] at h6
        exact Evl.sz_lt (by omega)
      · rw [upd_same, hT, if_pos hf]
        unfold sgs
        rw [List.map_append]
        rfl
    | false =>
      refine iteF ⟨eG.trans e2, ?_⟩
      rw [hT, if_neg (by rw [hf]; exact Bool.false_ne_true), List.append_nil]
      exact e2 _ _ hG
  · rintro G ⟨eG, hG⟩
    rw [kF_len, List.take_length] at hG
    exact ⟨eG _ _ upd_same, k Dl _ hD0 (ex_open hd eG) ((upd_ne nDd).trans hG)⟩
end
/-- what a piece of m signs at i gives -/
def StepM (fs : Fds) (ms : Mks) (l : List Nat) (i m : Nat) (x : List Nat) : Prop := (m = 1 ∧ ∃ c w, l[i]? = some c ∧ lk fs c = some w ∧ x = putL l i 1 w) ∨ (((l.drop i).take m).length = m ∧ ∃ c, (c, (l.drop i).take m) ∈ fs ∧ x = putL l i m [c]) ∨
  (m = 2 ∧ ∃ a b, l[i]? = some a ∧ l[i + 1]? = some b ∧ maySw ms a b = true ∧ x = putL l i 2 [b, a])
theorem step_all {fs : Fds} {ms : Mks} (ro : RuleOk fs ms) {l x : List Nat} : (∃ i m, i < l.length ∧ (m = 1 ∨ m = 2 ∨ m = 3) ∧ StepM fs ms l i m x) ↔ Exch fs ms l x := by
  constructor
  · rintro ⟨i, m, hi, _, ⟨rfl, c, w, hc, hw, rfl⟩ | ⟨hlen, c, hm, rfl⟩ | ⟨rfl, a, b, ha, hb, hs, rfl⟩⟩
    · exact .inl ⟨i, c, w, hc, hw, rfl⟩
    · exact .inr (.inl ⟨c, _, i, hm, hi, by rw [hlen], by rw [hlen]⟩)
    · exact .inr (.inr ⟨i, a, b, ha, hb, hs, rfl⟩)
  · rintro (⟨i, c, w, hc, hw, rfl⟩ | ⟨c, w, i, hm, hi, hcut, rfl⟩ | ⟨i, a, b, ha, hb, hs, rfl⟩)
    · exact ⟨i, 1, (List.getElem?_eq_some_iff.mp hc).1, .inl rfl, .inl ⟨rfl, c, w, hc, hw, rfl⟩⟩
    · have wd := (ro.fw _ hm).1
      have h1 : 1 ≤ w.length := wd.ge
      have h2 : w.length ≤ 3 := wd.le
      exact ⟨i, w.length, hi, by omega, .inr (.inl ⟨by rw [hcut], c, by rw [hcut]; exact hm, rfl⟩)⟩
    · exact ⟨i, 2, (List.getElem?_eq_some_iff.mp ha).1, .inr (.inl rfl), .inr (.inr ⟨rfl, a, b, ha, hb, hs, rfl⟩)⟩
theorem mem_if {α : Type} {a c : List α} {b : Bool} {x : α} : x ∈ (if b = true then a ++ c else a) ↔ x ∈ a ∨ (b = true ∧ x ∈ c) := by
  cases b with
  | true => rw [if_pos rfl, List.mem_append]; simp
  | false => rw [if_neg Bool.false_ne_true]; simp
def bothL (ms : Mks) (p : List Nat) : List Int := (p.filter (isM ms)).map fun c => (lk ms c).getD 0
theorem swap_iff {ms : Mks} {l : List Nat} {i m : Nat} : (decide (m = 2) && (decide ((bothL ms ((l.drop i).take m)).length = 2) && !decide ((bothL ms ((l.drop i).take m)).getD 0 0 = (bothL ms ((l.drop i).take m)).getD 1 0))) = true ↔
    m = 2 ∧ ∃ a b, l[i]? = some a ∧ l[i + 1]? = some b ∧ maySw ms a b = true := by
  rw [Bool.and_eq_true, Bool.and_eq_true, decide_eq_true_eq, decide_eq_true_eq]
  constructor
  · rintro ⟨rfl, h2, h3⟩
    refine ⟨rfl, ?_⟩
    have at0 : ∀ n, (l.drop i)[n]? = l[i + n]? := fun n => List.getElem?_drop
    match hd : l.drop i, at0, h2, h3 with
    | [], _, h2, _ => cases h2
    | [a], _, h2, _ =>
      unfold bothL at h2
      rw [List.length_map] at h2
      have := List.length_filter_le (isM ms) [a]
      have h2 : (([a] : List Nat).filter (isM ms)).length = 2 := h2
      rw [h2] at this
      exact absurd this (by simp)
    | a :: b :: r, at0, h2, h3 =>
      have h2 : (bothL ms [a, b]).length = 2 := h2
      have h3 : (!decide ((bothL ms [a, b]).getD 0 0 = (bothL ms [a, b]).getD 1 0)) = true := h3
      have ha : isM ms a = true := by
        cases e : isM ms a with
        | true => rfl
        | false =>
          unfold bothL at h2
          rw [List.length_map, List.filter_cons_of_neg (by rw [e]; exact Bool.false_ne_true)] at h2
          have := List.length_filter_le (isM ms) [b]
          rw [h2] at this
          exact absurd this (by simp)
      have hb : isM ms b = true := by
        cases e : isM ms b with
        | true => rfl
        | false =>
          unfold bothL at h2
          rw [List.length_map, List.filter_cons_of_pos ha, List.filter_cons_of_neg (by rw [e]; exact Bool.false_ne_true)] at h2
          exact absurd h2 (by simp)
      have e0 : l[i]? = some a := by rw [← Nat.add_zero i, ← at0 0]; rfl
      have e1 : l[i + 1]? = some b := by rw [← at0 1]; rfl
      refine ⟨a, b, e0, e1, ?_⟩
      unfold maySw
      rw [ha, hb]
      have hB : bothL ms [a, b] = [(lk ms a).getD 0, (lk ms b).getD 0] := by
        unfold bothL
        rw [List.filter_cons_of_pos ha, List.filter_cons_of_pos hb]
        rfl
      rw [hB] at h3
      have h3 : (!decide ((lk ms a).getD 0 = (lk ms b).getD 0)) = true := h3
      have ne : lk ms a ≠ lk ms b := fun e => by
        rw [e, decide_eq_true rfl] at h3
        cases h3
      rw [decide_eq_false ne]
      rfl
  · rintro ⟨rfl, a, b, ha, hb, hs⟩
    obtain ⟨_, ma, mb, ne⟩ := may_sym hs
    obtain ⟨x, hx⟩ := Option.isSome_iff_exists.mp ma
    obtain ⟨y, hy⟩ := Option.isSome_iff_exists.mp mb
    have hB : bothL ms ((l.drop i).take 2) = [x, y] := by
      unfold bothL
      rw [two_at ha hb, List.filter_cons_of_pos ma, List.filter_cons_of_pos mb]
      simp [hx, hy]
    rw [hB]
    refine ⟨rfl, rfl, ?_⟩
    show (!decide (x = y)) = true
    rw [decide_eq_false (fun e => ne (by rw [hx, hy, e]))]
    rfl
theorem step_iff {fs : Fds} {ms : Mks} (nd : (fs.map (·.1)).Nodup) {l : List Nat} {i m : Nat} {x : List Nat} (hi : i < l.length) : StepM fs ms l i m x ↔
    ((decide (m = 1) && (lk fs (l.getD i 0)).isSome) = true ∧ x ∈ [putL l i 1 ((lk fs (l.getD i 0)).getD [])]) ∨ (decide (((l.drop i).take m).length = m) = true ∧ x ∈ ((fs.filter fun q => decide (q.2 = (l.drop i).take m)).map (·.1)).map fun c => putL l i m [c]) ∨
      ((decide (m = 2) && (decide ((bothL ms ((l.drop i).take m)).length = 2) && !decide ((bothL ms ((l.drop i).take m)).getD 0 0 = (bothL ms ((l.drop i).take m)).getD 1 0))) = true ∧ x ∈ [l.take i ++ ((l.drop i).take m).reverse ++ l.drop (i + m)]) := by
  have hc : l[i]? = some (l.getD i 0) := by rw [List.getD_eq_getElem?_getD, List.getElem?_eq_getElem hi]; rfl
  unfold StepM
  refine or_congr ?_ (or_congr ?_ ?_)
  · rw [Bool.and_eq_true, decide_eq_true_eq, List.mem_singleton]
    constructor
    · rintro ⟨rfl, c, w, h1, h2, rfl⟩
      rw [hc] at h1
      cases h1
      rw [h2]
      exact ⟨⟨rfl, rfl⟩, rfl⟩
    · rintro ⟨⟨rfl, h⟩, rfl⟩
      obtain ⟨w, hw⟩ := Option.isSome_iff_exists.mp h
      exact ⟨rfl, _, w, hc, hw, by rw [hw]; rfl⟩
  · rw [decide_eq_true_eq, List.mem_map]
    refine and_congr Iff.rfl ⟨?_, ?_⟩
    · rintro ⟨c, hm, rfl⟩
      exact ⟨c, List.mem_map.mpr ⟨(c, _), List.mem_filter.mpr ⟨hm, decide_eq_true rfl⟩, rfl⟩, rfl⟩
    · rintro ⟨c, hm, rfl⟩
      obtain ⟨⟨c', w⟩, hq, rfl⟩ := List.mem_map.mp hm
      obtain ⟨h1, h2⟩ := List.mem_filter.mp hq
      have h2 : w = (l.drop i).take m := of_decide_eq_true h2
      subst h2
      exact ⟨c', h1, rfl⟩
  · rw [swap_iff, List.mem_singleton]
    constructor
    · rintro ⟨rfl, a, b, ha, hb, hs, rfl⟩
      refine ⟨⟨rfl, a, b, ha, hb, hs⟩, ?_⟩
      rw [two_at ha hb]
      rfl
    · rintro ⟨⟨rfl, a, b, ha, hb, hs⟩, rfl⟩
      refine ⟨rfl, a, b, ha, hb, hs, ?_⟩
      rw [two_at ha hb]
      rfl
theorem q_asgTup2 {K : Fg} {te : TE} {σ : L2.St} {H : Hp} {tz : TS} {D : Ends} {i j n : Nat} {x y : V} (hn : n = 2) (h : EvU te σ H [x, y]) (k : ∀ G, Ex H G → tz D ((σ.set i (some x)).set j (some y)) G) : tSeq (tAsg te (gTup K n (gCons (gName i) (gCons (gName j) gNil)))) tz D σ H := by
  subst hn
  exact h H (Ex.refl _) _ fun tp G _ e htp => ⟨tp, _, rfl, st_of htp, rfl, _, _, rfl, _, _, rfl, rfl, k G e⟩
section
variable {P : Program} {w : World} {K : Fg} {mg : Str → Option Value} {base : Heap} {A : TabA}
theorem ok__law_exchanges {f : Addr} {fd : FuncData} {k : Nat} (F : Fun K "_law_exchanges" "_law_exchanges" s__law_exchanges f fd) (T : Txt K mg) : FnOk P w K mg base CX0 (k + 1) f fd ["_law_rule_here", "_law_word_here"] spLEx := by
  refine F.ok sc__law_exchanges (fun vs H Q E h => ?_) (fun cdv A' outer s H vs Q E hr h => ?_)
  · obtain ⟨t, pf, pm, fs, ms, l, rfl, _⟩ := h
    rfl
  · obtain ⟨t, pf, pm, fs, ms, l, rfl, ht, hf, hm, ro, hf7, hl, q⟩ := h
    have hu := hu_of hr
    refine ⟨_, (pss_cons (ps_asg (pv 0) (pg_tup (by rfl) (pgs_cons (pg_name (i := 2) sc__law_exchanges.nd rfl (Or.inr rfl)) (pgs_cons (pg_name (i := 3) sc__law_exchanges.nd rfl (Or.inr rfl)) pgs_nil))))
      (pss_cons (ps_set (i := 4) sc__law_exchanges.nd rfl (Or.inl rfl) (pe_lstS pa_nil))
      (pss_cons (ps_for PassesOwn.never rfl (pi_range1 (by rfl) T.b_range (pa_cons (pe_callB call_len_str (by rfl) T.b_len PySem.boot_len (pa_cons (pv 1) pa_nil)) pa_nil)) (pg_name (i := 5) sc__law_exchanges.nd rfl (Or.inl rfl)) (pss_one (ps_for PassesOwn.never rfl (pi_tup (pe_tup (pa_cons pe_int (pa_cons pe_int (pa_cons pe_int pa_nil))))) (pg_name (i := 6) sc__law_exchanges.nd rfl (Or.inl rfl)) (pss_cons (ps_set (i := 7) sc__law_exchanges.nd rfl (Or.inr rfl) (pe_slice sl_str (pv 1) (po_some (pv 5)) (po_some (pe_op op_add (pv 5) (pv 6)))))
      (pss_cons (ps_asg (pe_tup (pa_cons (pe_slice sl_str (pv 1) po_none (po_some (pv 5))) (pa_cons (pe_slice sl_str (pv 1) (po_some (pe_op op_add (pv 5) (pv 6))) po_none) pa_nil))) (pg_tup (by rfl) (pgs_cons (pg_name (i := 8) sc__law_exchanges.nd rfl (Or.inr rfl)) (pgs_cons (pg_name (i := 9) sc__law_exchanges.nd rfl (Or.inr rfl)) pgs_nil))))
      (pss_cons (ps_if (PW.pt (pw_and (pt_cmpR op_eq (pv 6) pe_int (nomark _)) (pw_and1 (pt_cmp (pc_din hu (pv 7) (pv 2)))))) (pss_one (ps_expr (pe_bm PySem.F.plainAttrs_list PySem.F.slot_list_append PySem.F.type_list_append mt_append (pv 4) (pa_cons (pe_op op_add_str (pe_op op_add_str (pv 8) (pe_dget hu (pv 2) (pv 7) (fun _ _ => rfl))) (pv 9)) pa_nil)))) pss_nil)
      (pss_cons (ps_lock (ps_setLc (i := 10) (own := [("_law_sign", 11)]) (g := gName 11)  rfl sc__law_exchanges.nd rfl rfl (sw_true rfl rfl rfl (by decide +kernel)) (pi_keys (pv 2)) (blkOk_by (own := [("_law_sign", 11)]) (N := sc__law_exchanges_N) (sc := defScope s__law_exchanges) (by decide +kernel)) (fun _ _ _ _ _ => (pg_name (i := 11) sc__law_exchanges.nd rfl (Or.inl rfl))) (fun _ _ _ _ _ => pts_one (pt_cmpR op_eq (pe_dget hu (pv 2) (pv 11) (fun _ _ => rfl)) (pv 7) (nomark _))) (fun _ _ _ _ _ => (pv 11))))
      (pss_cons (ps_if (pt_cmpR op_eq (pe_callB call_len_str (by rfl) T.b_len PySem.boot_len (pa_cons (pv 7) pa_nil)) (pv 6) (nomark _)) (pss_one (ps_set (i := 4) sc__law_exchanges.nd rfl (Or.inl rfl) (pe_op op_cat (pv 4) (pe_lc (own := [("_law_sign", 11)]) (g := gName 11) (tt := tYes) rfl sc__law_exchanges.nd (pi_list (pv 10)) (blkOk_by (own := [("_law_sign", 11)]) (N := sc__law_exchanges_N) (sc := defScope s__law_exchanges) (by decide +kernel)) (fun _ _ _ _ _ => (pg_name (i := 11) sc__law_exchanges.nd rfl (Or.inl rfl))) (fun _ _ _ _ _ => pts_nil) (fun _ _ _ _ _ => (pe_op op_add_str (pe_op op_add_str (pv 8) (pv 11)) (pv 9))))))) pss_nil)
      (pss_cons (ps_setLc (i := 12) (own := [("_law_sign", 11)]) (g := gName 11)  rfl sc__law_exchanges.nd rfl rfl (sw_true rfl rfl rfl (by decide +kernel)) (pi_str (pv 7)) (blkOk_by (own := [("_law_sign", 11)]) (N := sc__law_exchanges_N) (sc := defScope s__law_exchanges) (by decide +kernel)) (fun _ _ _ _ _ => (pg_name (i := 11) sc__law_exchanges.nd rfl (Or.inl rfl))) (fun _ _ _ _ _ => pts_one (pt_cmp (pc_din hu (pv 11) (pv 3)))) (fun _ _ _ _ _ => (pe_dget hu (pv 3) (pv 11) (fun _ _ => rfl))))
      (pss_one (ps_if (PW.pt (pw_and (pt_cmpR op_eq (pv 6) pe_int (nomark _)) (pw_and (pt_cmpR op_eq (pe_callB call_len_seq (by rfl) T.b_len PySem.boot_len (pa_cons (pv 12) pa_nil)) pe_int (nomark _)) (pw_and1 (pt_cmpR op_ne (pe_ix ix_list (pv 12) pe_int (fun _ _ => rfl)) (pe_ix ix_list (pv 12) pe_int (fun _ _ => rfl)) (nomark _)))))) (pss_one (ps_expr (pe_bm PySem.F.plainAttrs_list PySem.F.slot_list_append PySem.F.type_list_append mt_append (pv 4) (pa_cons (pe_op op_add_str (pe_op op_add_str (pv 8) (pe_revS (pv 7))) (pv 9)) pa_nil)))) pss_nil)))))))))))
      (pss_one (ps_ret (pv 4)))))), ?_⟩
    refine ⟨_, rfl, t, _, rfl, st_of ht, rfl, _, _, rfl, _, _, rfl, rfl, ?_⟩
    refine q_asgM (em_lst ea_nil (by decide)) fun L H1 nL _ e1 hL => ?_
    refine q_forR1 (n := (l.length : Int)) (ea_cons (ev_is (ev_lenS (ev_var rfl) (by rw [stL_len]; omega)) (by rw [stL_len])) ea_nil) (by omega)
      (fun i σ' G => ∃ p xs y5 y6 y7 y8 y9 y10 y12, σ' = [some (.ref t), some (.str (stL l)), some (.ref pf), some (.ref pm), some (.ref p), y5, y6, y7, y8, y9, y10, none, y12] ∧ LX H G p xs ∧ (∀ x, x ∈ xs ↔ ∃ i' m, i' < i ∧ (m = 1 ∨ m = 2 ∨ m = 3) ∧ StepM fs ms l i' m x) ∧ xs.length ≤ 27 * i)
      (fun H2 e2 => ⟨L, [], _, _, _, _, _, _, _, rfl, ⟨nL, e1.trans e2, e2 _ _ hL⟩, fun x => ⟨fun h => absurd h List.not_mem_nil, fun ⟨i, _, hi, _⟩ => absurd hi (Nat.not_lt_zero _)⟩, Nat.zero_le _⟩) ?_ ?_
    · rintro i σ' G hi ⟨p0, xs0, y5, y6, y7, y8, y9, y10, y12, rfl, L0, mem0, len0⟩
      have hi' : i < l.length := by omega
      refine ⟨(by show 3 ≤ sizeLine; decide), fun tt ntt => ⟨tt, rfl, ⟨_, st_of upd_same⟩, ?_⟩⟩
      have htt0 : H tt = none := fresh_back L0.ex ntt
      have nep : p0 ≠ tt := ne_of_none L0.at' ntt
      have eB : Ex H (upd H tt (.tup [.int 1, .int 2, .int 3])) := Ex.new htt0
      have L1 : LX (upd H tt (.tup [.int 1, .int 2, .int 3])) (upd G tt (.tup [.int 1, .int 2, .int 3])) p0 xs0 := ⟨(upd_ne nep).trans L0.fr, ex_lock L0.ex, (upd_ne nep).trans L0.at'⟩
      have hfB := eB _ _ hf
      have hmB := eB _ _ hm
      refine for_it walk_tup (fun j σ' G => ∃ p xs y6 y7 y8 y9 y10 y12, σ' = [some (.ref t), some (.str (stL l)), some (.ref pf), some (.ref pm), some (.ref p), some (.int (i : Int)), y6, y7, y8, y9, y10, none, y12] ∧ LX (upd H tt (.tup [.int 1, .int 2, .int 3])) G p xs ∧
          (∀ x, x ∈ xs ↔ (∃ i' m, i' < i ∧ (m = 1 ∨ m = 2 ∨ m = 3) ∧ StepM fs ms l i' m x) ∨ ∃ m, 1 ≤ m ∧ m < j + 1 ∧ StepM fs ms l i m x) ∧ xs.length ≤ 27 * i + 9 * j)
        ⟨p0, xs0, _, _, _, _, _, _, rfl, L1, fun x => (mem0 x).trans ⟨.inl, fun h => h.resolve_right fun ⟨m, h1, h2, _⟩ => by omega⟩, by omega⟩ (fun j σ' G _ ⟨_, _, _, _, _, _, _, _, _, h, _⟩ => st_of (h.ex _ _ upd_same)) ?_ ?_
      · rintro j x σ' G1 G1' hj ⟨p, xs, y6, y7, y8, y9, y10, y12, rfl, LG, mem, len⟩ ⟨rfl, hx⟩
        have hj3 : j < 3 := hj
        obtain ⟨m, rfl, em⟩ : ∃ m : Nat, x = .int (m : Int) ∧ m = j + 1 := by
          match j, hj3, hx with
          | 0, _, h => exact ⟨1, (Option.some.inj h).symm, rfl⟩
          | 1, _, h => exact ⟨2, (Option.some.inj h).symm, rfl⟩
          | 2, _, h => exact ⟨3, (Option.some.inj h).symm, rfl⟩
        have l200 : l.length ≤ 100000 := by omega
        have il : (l.take i).length = i := by rw [List.length_take]; omega
        -- piece, ahead, behind
        refine q_asg (ev_cutMid (n := m) (ev_var rfl) (ev_var rfl) (ev_addN (ev_var rfl) (ev_var rfl)) (by omega) l200) fun G2 e2 => ?_
        have tu : EvU (tTup (tCons (tSl rSlS (tVar 1) tNoPart (tPart (tVar 5))) (tCons (tSl rSlS (tVar 1) (tPart (tOp (rI0 fun i j => .int (i + j)) (tVar 5) (tVar 6))) tNoPart) tNil))) [some (.ref t), some (.str (stL l)), some (.ref pf), some (.ref pm), some (.ref p), some (.int (i : Int)), some (.int (m : Int)), some (.str (stL ((l.drop i).take m))), y8, y9, y10, none, y12] G2 [.str (stL (l.take i)), .str (stL (l.drop (i + m)))] :=
          eu_tup (ea_cons (ev_is (ev_cutTo (ev_var rfl) (ev_var rfl) (by rw [stL_len]; exact l200)) (by rw [cut_to])) (ea_cons (ev_is (ev_cutFrom (ev_var rfl) (ev_addN (ev_var rfl) (ev_var rfl)) (by rw [stL_len]; exact l200)) (by rw [cut_from])) ea_nil)) (by show 2 ≤ 100000; decide)
        refine q_asgTup2 rfl tu fun G3 e3 => ?_
        have e23 := e2.trans e3
        have pl : ((l.drop i).take m).length ≤ 3 := by rw [List.length_take]; omega
        have dl : (l.drop (i + m)).length ≤ 60 := by rw [List.length_drop]; omega
        -- a fold
        have hb1 : ∀ G, Ex (upd H tt (.tup [.int 1, .int 2, .int 3])) G → EvT (tAnd (tTest (tOp rEq (tVar 6) (tC (.int 1)))) (tB (tDIn (tVar 7) (tVar 2)))) [some (.ref t), some (.str (stL l)), some (.ref pf), some (.ref pm), some (.ref p), some (.int (i : Int)), some (.int (m : Int)), some (.str (stL ((l.drop i).take m))), some (.str (stL (l.take i))), some (.str (stL (l.drop (i + m)))), y10, none, y12] G (decide (m = 1) && (lk fs (l.getD i 0)).isSome) := fun G e => by
          refine et_and (et_is (et_test (ev_eqI (ev_var rfl) ev_c)) (by rw [decide_eq_decide]; omega)) fun h1 => ?_
          have h1 := of_decide_eq_true h1
          subst h1
          have hc : l[i]? = some (l.getD i 0) := by rw [List.getD_eq_getElem?_getD, List.getElem?_eq_getElem hi']; rfl
          refine et_is (et_B (ev_din (k := Sum.inr (sgS (l.getD i 0))) (ev_var rfl) (ev_is (ev_var rfl) (by rw [one_at hc]; rfl)) (e _ _ hfB))) ?_
          rw [valV_kF]
          cases lk fs (l.getD i 0) <;> rfl
        refine q_whenApp (z := putL l i 1 ((lk fs (l.getD i 0)).getD [])) (LG.on e23) (hb1 _ (LG.on e23).ex) rfl (fun hb G e => ?_) (by omega) fun G4 LG4 => ?_
        · obtain ⟨h1, h2⟩ := Bool.and_eq_true_iff.mp hb
          have h1 := of_decide_eq_true h1
          subst h1
          have hc : l[i]? = some (l.getD i 0) := by rw [List.getD_eq_getElem?_getD, List.getElem?_eq_getElem hi']; rfl
          obtain ⟨w, hw⟩ := Option.isSome_iff_exists.mp h2
          have lw : w.length ≤ 3 := (ro.fw _ (lk_mem hw)).1.le
          refine ev_is (ev_addS (ev_is (ev_addS (ev_var rfl) (ev_dget (k := Sum.inr (sgS (l.getD i 0))) (v := .str (stL w)) (ev_var rfl) (ev_is (ev_var rfl) (by rw [one_at hc]; rfl)) ((LG.on (e23.trans e)).ex _ _ hfB) (by rw [valV_kF, hw]; rfl)) (by rw [stL_len, stL_len]; omega)) (by rw [stL_app])) (ev_var rfl) (by rw [stL_len, stL_len, List.length_append]; omega)) ?_
          rw [stL_app, hw]
          rfl
        -- folds taken back
        refine q_asgKeys (fun q => decide (q.2 = (l.drop i).take m)) (LG4.ex _ _ hfB) (by omega) ⟨rfl, rfl⟩ (fun _ => rfl) (fun _ => rfl) (fun q G rd hq => ?_) fun sp G5 _ e5 hsp => ?_
        · refine et_is (et_test (ev_eqS (ev_dgetR (k := Sum.inr (sgS q.1)) (v := .str (stL q.2)) (ev_var rfl) (ev_var rfl) rd (by rw [valV_kF, lk_of_mem ro.fn hq]; rfl)) (ev_var rfl))) ?_
          rw [decide_eq_decide]
          exact ⟨fun h => stL_inj h, fun h => congrArg stL h⟩
        let sg : List Nat := (fs.filter fun q => decide (q.2 = (l.drop i).take m)).map (·.1)
        have sgl : sg.length ≤ 7 := by
          show ((fs.filter _).map _).length ≤ 7
          rw [List.length_map]
          exact Nat.le_trans (List.length_filter_le ..) hf7
        have LG5 := LG4.on e5
        let xs4 : List (List Nat) := if (decide (m = 1) && (lk fs (l.getD i 0)).isSome) = true then xs ++ [putL l i 1 ((lk fs (l.getD i 0)).getD [])] else xs
        have len4 : xs4.length ≤ 27 * i + 9 * j + 1 := by
          show (if _ then _ else _ : List (List Nat)).length ≤ _
          split
          · rw [List.length_append]
            show _ + 1 ≤ _
            omega
          · omega
        refine q_whenCat (xs := xs4) (zs := sg.map fun c => putL l i m [c]) (b := decide (((l.drop i).take m).length = m)) LG5 (et_is (et_test (ev_eqI (ev_is (ev_lenS (ev_var rfl) (by rw [stL_len]; omega)) (by rw [stL_len])) (ev_var rfl))) (by rw [decide_eq_decide]; omega)) rfl (fun hb G e => ?_) (by rw [List.length_map]; omega) rfl fun G6 p6 LG6 => ?_
        · have hsp2 : G sp = some (.lst (sgs sg)) := e _ _ hsp
          have lc := el_lcL (K := K) (σ := [some (.ref t), some (.str (stL l)), some (.ref pf), some (.ref pm), some (.ref p), some (.int (i : Int)), some (.int (m : Int)), some (.str (stL ((l.drop i).take m))), some (.str (stL (l.take i))), some (.str (stL (l.drop (i + m)))), some (.ref sp), none, y12]) (H := G) (tl := tVar 10) (t := tYes) (te := tOp (fun x y H Q => ∃ i j, x = V.str i ∧ y = V.str j ∧ i.length + j.length ≤ sizeLine ∧ Q (V.str (i ++ j)) H) (tOp (fun x y H Q => ∃ i j, x = V.str i ∧ y = V.str j ∧ i.length + j.length ≤ sizeLine ∧ Q (V.str (i ++ j)) H) (tVar 8) (tVar 11)) (tVar 9)) (j := 11) (vs := [11])
            (fun _ => true) (fun n => .str (stL (putL l i m [sg.getD n 0]))) (ev_var rfl) (sq_of hsp2) (by rw [sgs_len]; omega) (fun _ => rfl) (fun _ _ _ _ _ => et_yes) (fun n x G7 e7 hx _ => by
              unfold sgs at hx
              rw [List.getElem?_map] at hx
              obtain ⟨c, hc, rfl⟩ := Option.map_eq_some_iff.mp hx
              have gd : sg.getD n 0 = c := by rw [List.getD_eq_getElem?_getD, hc]; rfl
              refine ev_is (ev_addS (ev_is (ev_addS (ev_var rfl) (ev_is (ev_var rfl) (show V.str (sgS c) = V.str (stL [c]) from rfl)) (by rw [stL_len, stL_len]; show _ + 1 ≤ _; omega)) (by rw [stL_app])) (ev_var rfl) (by rw [stL_len, stL_len, List.length_append]; show _ + 1 + _ ≤ _; omega)) ?_
              rw [stL_app, gd]
              rfl)
          have ee : given (sgs sg).length (fun _ => true) (fun n => V.str (stL (putL l i m [sg.getD n 0]))) = txs (sg.map fun c => putL l i m [c]) := by
            unfold given txs
            rw [sgs_len, List.filter_eq_self.mpr fun _ _ => rfl, List.map_map]
            apply List.ext_getElem
            · simp
            · intro n h1 h2
              simp at h1
              simp [h1]
          rw [ee] at lc
          exact lc
        -- neighbours
        refine q_asgL (el_lcS (isM ms) (fun c => .int ((lk ms c).getD 0)) (ev_var rfl) (by rw [stL_len]; omega) (fun _ => rfl) (fun c G e hc => ?_) (fun c G e hc hM => ?_)) fun bp G7 _ e7 hbp => ?_
        · refine et_is (et_B (ev_din (k := Sum.inr (sgS c)) (ev_var rfl) (ev_var rfl) (e _ _ (LG6.ex _ _ hmB)))) ?_
          rw [valV_kM]
          unfold isM
          cases lk ms c <;> rfl
        · obtain ⟨x, hx⟩ := Option.isSome_iff_exists.mp hM
          exact ev_dget (k := Sum.inr (sgS c)) (ev_var rfl) (ev_var rfl) (e _ _ (LG6.ex _ _ hmB)) (by rw [valV_kM, hx]; rfl)
        have LG7 := LG6.on e7
        rw [stL_codes] at hbp
        let both : List Int := bothL ms ((l.drop i).take m)
        have hbp : G7 bp = some (.lst (both.map V.int)) := by rw [hbp]; show _ = some (HO.lst (List.map V.int (List.map _ _))); rw [List.map_map]; rfl
        let xs6 : List (List Nat) := if decide (((l.drop i).take m).length = m) = true then xs4 ++ sg.map (fun c => putL l i m [c]) else xs4
        have len6 : xs6.length ≤ 27 * i + 9 * j + 8 := by
          show (if _ then _ else _ : List (List Nat)).length ≤ _
          split
          · rw [List.length_append, List.length_map]
            omega
          · omega
        refine s_whenApp (xs := xs6) (z := l.take i ++ ((l.drop i).take m).reverse ++ l.drop (i + m)) (b := decide (m = 2) && (decide (both.length = 2) && !decide (both.getD 0 0 = both.getD 1 0))) LG7 (et_and (et_is (et_test (ev_eqI (ev_var rfl) ev_c)) (by rw [decide_eq_decide]; omega)) fun h1 => et_and (et_is (et_test (ev_eqI (ev_is (ev_len (ev_var rfl) (sq_of hbp)) (by rw [List.length_map])) ev_c)) (by rw [decide_eq_decide]; omega)) fun h2 => ?_) rfl (fun hb G e => ?_) (by omega) fun G8 LG8 => ?_
        · have h2 := of_decide_eq_true h2
          have g0 : (both.map V.int)[0]? = some (.int (both.getD 0 0)) := by rw [List.getElem?_map, List.getD_eq_getElem?_getD, List.getElem?_eq_getElem (by omega)]; rfl
          have g1 : (both.map V.int)[1]? = some (.int (both.getD 1 0)) := by rw [List.getElem?_map, List.getD_eq_getElem?_getD, List.getElem?_eq_getElem (by omega)]; rfl
          exact et_test (ev_neI (ev_ixL (i := 0) (ev_var rfl) ev_c hbp g0) (ev_ixL (i := 1) (ev_var rfl) ev_c hbp g1))
        · refine ev_is (ev_addS (ev_is (ev_addS (ev_var rfl) (fun H3 e3 Q q => ⟨_, rfl, stL ((l.drop i).take m), rfl, by rw [stL_len]; omega, by rw [stL_codes]; exact q H3 (Ex.refl _)⟩ : Ev (tRevS (tVar 7)) _ _ (.str (stL ((l.drop i).take m).reverse))) (by rw [stL_len, stL_len, List.length_reverse]; omega)) (by rw [stL_app])) (ev_var rfl) (by rw [stL_len, stL_len, List.length_append, List.length_reverse]; omega)) ?_
          rw [stL_app]
        -- all that came
        refine ⟨p6, _, _, _, _, _, _, _, rfl, LG8, fun x => ?_, ?_⟩
        · rw [mem_if]
          show x ∈ (if _ then _ else _ : List (List Nat)) ∨ _ ↔ _
          rw [mem_if]
          show (x ∈ (if _ then _ else _ : List (List Nat)) ∨ _) ∨ _ ↔ _
          rw [mem_if, mem, or_assoc, or_assoc, or_assoc, ← step_iff ro.fn hi']
          constructor
          · rintro (h | ⟨m', h1, h2, h3⟩ | h)
            · exact .inl h
            · exact .inr ⟨m', h1, by omega, h3⟩
            · exact .inr ⟨m, by omega, by omega, h⟩
          · rintro (h | ⟨m', h1, h2, h3⟩)
            · exact .inl h
            · by_cases e : m' = m
              · exact .inr (.inr (e ▸ h3))
              · exact .inr (.inl ⟨m', h1, by omega, h3⟩)
        · show (if _ then _ else _ : List (List Nat)).length ≤ _
          split
          · rw [List.length_append]
            show _ + 1 ≤ _
            omega
          · omega
      · rintro σ' G1 ⟨p, xs, y6, y7, y8, y9, y10, y12, rfl, LG, mem, len⟩
        have len : xs.length ≤ 27 * i + 9 * 3 := len
        refine ⟨p, xs, _, _, _, _, _, _, _, rfl, ⟨fresh_back eB LG.fr, eB.trans LG.ex, LG.at'⟩, fun x => (mem x).trans ⟨?_, ?_⟩, by omega⟩
        · rintro (⟨i', m, h1, h2, h3⟩ | ⟨m, h1, h2, h3⟩)
          · exact ⟨i', m, by omega, h2, h3⟩
          · have h2 : m < 3 + 1 := h2
            exact ⟨i, m, by omega, by omega, h3⟩
        · rintro ⟨i', m, h1, h2, h3⟩
          by_cases e : i' = i
          · subst e
            exact .inr ⟨m, by omega, by show m < 3 + 1; omega, h3⟩
          · exact .inl ⟨i', m, by omega, h2, h3⟩
    · rintro σ' G ⟨p, xs, y5, y6, y7, y8, y9, y10, y12, rfl, LG, mem, len⟩
      have len : xs.length ≤ 27 * ((l.length : Int)).toNat := len
      refine s_ret (ev_var rfl) fun G2 e2 => q p xs G2 LG.fr (LG.ex.trans e2) (e2 _ _ LG.at') (fun x => ?_) (by omega)
      rw [← step_all ro]
      constructor
      · intro hx
        obtain ⟨i, m, h1, h2, h3⟩ := (mem x).mp hx
        exact ⟨i, m, by omega, h2, h3⟩
      · rintro ⟨i, m, h1, h2, h3⟩
        exact (mem _).mpr ⟨i, m, by omega, h2, h3⟩
end
end Nm


set_option Elab.async false
set_option linter.all false
set_option maxRecDepth 100000
set_option maxHeartbeats 4000000
namespace Nm
open PySem PySem.Spec PyProof.Rows L2 Evl
/-! ### a word made of another one; the law's own ways and indexes -/
abbrev s__law_other : Stmt := top 53
abbrev sc__law_other_N : List Str := ["_law_bag_here", "_law_rule_here", "_law_name", "_law_turn", "_law_some", "_law_word_here", "_law_at"]
theorem sc__law_other : FnScope sc__law_other_N ["_law_bag_here", "_law_rule_here", "_law_name"] (defScope s__law_other) := ⟨rfl, rfl, rfl, by decide +kernel, rfl, by decide +kernel, by decide +kernel⟩
abbrev s__law_is_way : Stmt := top 54
abbrev sc__law_is_way_N : List Str := ["_law_rule_here", "_law_one", "_law_other_here", "_law_thing", "_law_k"]
theorem sc__law_is_way : FnScope sc__law_is_way_N ["_law_rule_here", "_law_one", "_law_other_here", "_law_thing"] (defScope s__law_is_way) := ⟨rfl, rfl, rfl, by decide +kernel, rfl, by decide +kernel, by decide +kernel⟩
abbrev s__law_first_index : Stmt := top 55
abbrev sc__law_first_index_N : List Str := ["_law_one", "_law_other_here", "_law_at"]
theorem sc__law_first_index : FnScope sc__law_first_index_N ["_law_one", "_law_other_here"] (defScope s__law_first_index) := ⟨rfl, rfl, rfl, by decide +kernel, rfl, by decide +kernel, by decide +kernel⟩
def rLnK (K : Fg) : List V → Hp → VK → Prop := fun xs H Q => ∃ p ys, xs = [V.ref p] ∧ (SqL K H p ys ∨ SqT K H p ys) ∧ Q (V.int (ys.length : Int)) H
theorem call_lenK {X : Cx} {K : Fg} (h : X.K = K) : CallR X (.builtin "len") (rLnK K) := by
  subst h
  exact call_len_seq
theorem q_setSrc {K : Fg} {tl te : TE} {g : TG} {t : TT} {vs : List Nat} {i : Nat} {tz : TS} {D : Ends} {σ : L2.St} {H : Hp} (h : tl σ H fun v G => tSeq (tAsg (tLc (iList K (tC v)) g t te vs) (gName i)) tz D σ G) : tSeq (tAsg (tLc (iList K tl) g t te vs) (gName i)) tz D σ H := h
def RuleIn (H : Hp) (t pf pm : Addr) (fs : Fds) (ms : Mks) : Prop := H t = some (.tup [.ref pf, .ref pm]) ∧ H pf = some (.dK (kF fs)) ∧ H pm = some (.dK (kM ms))
theorem RuleIn.on {H H1 : Hp} {t pf pm : Addr} {fs : Fds} {ms : Mks} (h : RuleIn H t pf pm fs ms) (e : Ex H H1) : RuleIn H1 t pf pm fs ms := ⟨e _ _ h.1, e _ _ h.2.1, e _ _ h.2.2⟩
theorem RuleIn.but {H H1 : Hp} {t pf pm b : Addr} {fs : Fds} {ms : Mks} {n : Nat} (h : RuleIn H t pf pm fs ms) (hb : BagAt H b n) (x : But1 b H H1) : RuleIn H1 t pf pm fs ms := by
  obtain ⟨h1, h2, h3⟩ := h
  obtain ⟨d, y, c, e, _⟩ := hb
  exact ⟨x _ _ (ne_of h1 e (by intro z; cases z)) h1, x _ _ (ne_of h2 e (by intro z; cases z)) h2, x _ _ (ne_of h3 e (by intro z; cases z)) h3⟩
def spOther : Sp := fun vs H Q _ => ∃ b t pf pm fs ms l n, vs = [.ref b, .ref t, .str (stL l)] ∧ RuleIn H t pf pm fs ms ∧ RuleOk fs ms ∧ fs.length ≤ 7 ∧ BagAt H b n ∧ n ≤ 90000000 ∧ Wd l 6 ∧ ∀ m H', Wd m 6 → BagAt H' b (n + 30) → But1 b H H' → Q (.str (stL m)) H'
def spLWay : Sp := fun vs H Q _ => ∃ t pf pm fs ms o e p ws, vs = [.ref t, .str (stL o), .str (stL e), .ref p] ∧ RuleIn H t pf pm fs ms ∧ RuleOk fs ms ∧ fs.length ≤ 7 ∧ H p = some (.lst (txs ws)) ∧ Shown fs ms o e ws ∧ ws.length ≤ 30000 ∧ Steps (Exch fs ms) ws ∧ RetV (.bl true) H Q
def spFirst : Sp := fun vs H Q _ => ∃ l m n, vs = [.str (stL l), .str (stL m)] ∧ l.length ≤ 5000 ∧ m.length ≤ 5000 ∧ Parts l m n ∧ RetV (.int (n : Int)) H Q
theorem ev_inLEx {K : Fg} {t pf pm : Addr} {ta : TE} {tA : TA} {σ : L2.St} {H : Hp} {fs : Fds} {ms : Mks} {l m : List Nat} (hw : Ev ta σ H (.str (stL m))) (h : EvA tA σ H [.ref t, .str (stL l)]) (hr : RuleIn H t pf pm fs ms) (ro : RuleOk fs ms) (h7 : fs.length ≤ 7) (h2 : l.length ≤ 60) (hm : Exch fs ms l m) : Ev (tOp (rIn K false) ta (tCall spLEx [] E0 tA)) σ H (.bl true) := fun H1 e Q q =>
  hw H1 e _ fun H2 e2 => h H2 (e.trans e2) _ fun H3 e3 => by
    have hr3 := hr.on ((e.trans e2).trans e3)
    exact ⟨t, pf, pm, fs, ms, l, rfl, hr3.1, hr3.2.1, hr3.2.2, ro, h7, h2, fun p xs H4 np e4 hp mem _ => ⟨p, _, rfl, .inl (sq_of hp), rfl, txs_flat _, by
      rw [txs_in, decide_eq_true ((mem m).mpr hm)]
      exact q H4 ((e2.trans e3).trans e4)⟩⟩
theorem parts_ex : ∀ {l m : List Nat}, l ≠ m → ∃ n, Parts l m n
  | [], [], h => absurd rfl h
  | [], b :: m, _ => ⟨0, fun j hj => absurd hj (Nat.not_lt_zero _), by simp⟩
  | a :: l, [], _ => ⟨0, fun j hj => absurd hj (Nat.not_lt_zero _), by simp⟩
  | a :: l, b :: m, h => by
    by_cases e : a = b
    · obtain ⟨n, h1, h2⟩ := parts_ex (l := l) (m := m) fun z => h (by rw [e, z])
      refine ⟨n + 1, fun j hj => ?_, by simpa using h2⟩
      cases j with
      | zero => simp [e]
      | succ j => simpa using h1 j (by omega)
    · exact ⟨0, fun j hj => absurd hj (Nat.not_lt_zero _), by simpa using e⟩
section
variable {P : Program} {w : World} {K : Fg} {mg : Str → Option Value} {base : Heap} {A : TabA}
theorem ok__law_other {f f1 f2 f3 : Addr} {fd fd1 fd2 fd3 : FuncData} {k : Nat} (F : Fun K "_law_other" "_law_other" s__law_other f fd) (T : Txt K mg) (C__law_take : Cal P w K mg base CX0 k "_law_take" ["_law_bag_here", "_law_many"] spTake f1 fd1) (C__law_exchanges : Cal P w K mg base CX0 k "_law_exchanges" ["_law_rule_here", "_law_word_here"] spLEx f2 fd2)
    (C__law_word : Cal P w K mg base CX0 k "_law_word" ["_law_bag_here", "_law_most"] spWord f3 fd3) : FnOk P w K mg base CX0 (k + 1) f fd ["_law_bag_here", "_law_rule_here", "_law_name"] spOther := by
  refine F.ok sc__law_other (fun vs H Q E h => ?_) (fun cdv A' outer s H vs Q E hr h => ?_)
  · obtain ⟨b, t, pf, pm, fs, ms, l, n, rfl, _⟩ := h
    rfl
  · obtain ⟨b, t, pf, pm, fs, ms, l, n, rfl, hr0, ro, h7, hB, hn, wd, q⟩ := h
    refine ⟨_, (pss_cons (ps_for PassesOwn.never rfl (pi_range1 (by rfl) T.b_range (pa_cons (pe_call C__law_take.ok hr (by rfl) C__law_take.mg C__law_take.kp C__law_take.b .nil pass0 (pa_cons (pv 0) (pa_cons pe_int pa_nil))) pa_nil)) (pg_name (i := 3) sc__law_other.nd rfl (Or.inl rfl)) (pss_cons (ps_setLc (i := 4) (own := [("_law_word_here", 5)]) (g := gName 5)  rfl sc__law_other.nd rfl rfl (sw_true rfl rfl rfl (by decide +kernel)) (pi_list (pe_call C__law_exchanges.ok hr (by rfl) C__law_exchanges.mg C__law_exchanges.kp C__law_exchanges.b .nil pass0 (pa_cons (pv 1) (pa_cons (pv 2) pa_nil)))) (blkOk_by (own := [("_law_word_here", 5)]) (N := sc__law_other_N) (sc := defScope s__law_other) (by decide +kernel)) (fun _ _ _ _ _ => (pg_name (i := 5) sc__law_other.nd rfl (Or.inl rfl))) (fun _ _ _ _ _ => pts_one (pt_cmpR op_lt (pe_callB call_len_str (by rfl) T.b_len PySem.boot_len (pa_cons (pv 5) pa_nil)) pe_int (nomark _))) (fun _ _ _ _ _ => (pv 5)))
      (pss_one (ps_if (pt_cmpR (op_neD hr.units) (pv 4) (pe_lstS pa_nil) (nomark _)) (pss_one (ps_set (i := 2) sc__law_other.nd rfl (Or.inl rfl) (pe_ix ix_list (pv 4) (pe_call C__law_take.ok hr (by rfl) C__law_take.mg C__law_take.kp C__law_take.b .nil pass0 (pa_cons (pv 0) (pa_cons (pe_callB call_len_seq (by rfl) T.b_len PySem.boot_len (pa_cons (pv 4) pa_nil)) pa_nil))) (fun _ _ => rfl)))) pss_nil))))
      (pss_cons (ps_if (pt_cmpR op_eq (pe_call C__law_take.ok hr (by rfl) C__law_take.mg C__law_take.kp C__law_take.b .nil pass0 (pa_cons (pv 0) (pa_cons pe_int pa_nil))) pe_int (nomark _)) (pss_cons (ps_set (i := 6) sc__law_other.nd rfl (Or.inl rfl) (pe_call C__law_take.ok hr (by rfl) C__law_take.mg C__law_take.kp C__law_take.b .nil pass0 (pa_cons (pv 0) (pa_cons (pe_callB call_len_str (by rfl) T.b_len PySem.boot_len (pa_cons (pv 2) pa_nil)) pa_nil))))
      (pss_one (ps_set (i := 2) sc__law_other.nd rfl (Or.inl rfl) (pe_op op_add_str (pe_op op_add_str (pe_slice sl_str (pv 2) po_none (po_some (pv 6))) (pe_call C__law_word.ok hr (by rfl) C__law_word.mg C__law_word.kp C__law_word.b .nil pass0 (pa_cons (pv 0) (pa_cons pe_int pa_nil)))) (pe_slice sl_str (pv 2) (po_some (pe_op op_add (pv 6) (pe_call C__law_take.ok hr (by rfl) C__law_take.mg C__law_take.kp C__law_take.b .nil pass0 (pa_cons (pv 0) (pa_cons pe_int pa_nil))))) po_none))))) pss_nil)
      (pss_one (ps_ret (pe_slice sl_str (pv 2) po_none (po_some pe_int)))))), ?_⟩
    refine ⟨_, rfl, b, 8, _, rfl, hB, by omega, by decide, by decide, fun r H1 hq0 hq1 hb1 ht1 => ⟨r, rfl, by omega, by omega, ?_⟩⟩
    have bt1 : But1 b H H1 := fun x u ne e => (ht1 x ne).trans e
    refine for_it (walk_range (lo := 0) (n := r.toNat)) (fun i σ' G => ∃ m y3 y4 y5, σ' = [some (.ref b), some (.ref t), some (.str (stL m)), y3, y4, y5, none] ∧ Wd m 6 ∧ BagAt G b (n + 1 + i) ∧ But1 b H G)
      ⟨l, _, _, _, rfl, wd, hb1, bt1⟩ (fun _ _ _ _ _ => trivial) ?_ ?_
    · rintro i x σ' G G' hi ⟨m, y3, y4, y5, rfl, wm, hG, bG⟩ ⟨rfl, rfl⟩
      have hrG := hr0.but hB bG
      have m1 := wm.ge
      have m6 := wm.le
      refine q_setSrc (K := K) (i := 4) ?_
      refine ⟨_, rfl, _, rfl, t, pf, pm, fs, ms, m, rfl, hrG.1, hrG.2.1, hrG.2.2, ro, h7, by omega, fun p xs G1 np e1 hp mem len => ?_⟩
      have lc := el_lcL (K := K) (σ := [some (.ref b), some (.ref t), some (.str (stL m)), some (.int (0 + (i : Int))), y4, y5, none]) (H := G1) (tl := tC (.ref p)) (te := tVar 5) (t := tTest (tOp (rI0 fun i j => .bl (decide (i < j))) (tCB (fun xs H Q => ∃ z : Str, xs = [.str z] ∧ z.length ≤ sizeLine ∧ Q (.int (z.length : Int)) H) (tCons (tVar 5) tNil)) (tC (.int 7)))) (j := 5) (vs := [5])
        (fun n => decide (((xs.getD n []).length : Int) < 7)) (fun n => .str (stL (xs.getD n []))) ev_c (sq_of hp) (by rw [txs_len]; omega) (fun _ => rfl)
        (fun n v G7 e7 hv => by
          obtain ⟨z, hz, rfl⟩ := txs_of hv
          have gd : xs.getD n [] = z := by rw [List.getD_eq_getElem?_getD, hz]; rfl
          rw [gd]
          have ld := (led_of ro ((mem z).mp (List.mem_of_getElem? hz))).le
          exact et_is (et_test (ev_op (ev_lenS (ev_var rfl) (by rw [stL_len]; omega)) ev_c rv_I0)) (by rw [stL_len]))
        (fun n v G7 e7 hv _ => by
          obtain ⟨z, hz, rfl⟩ := txs_of hv
          have gd : xs.getD n [] = z := by rw [List.getD_eq_getElem?_getD, hz]; rfl
          rw [gd]
          exact ev_var rfl)
      rw [given_txs] at lc
      obtain ⟨zs, ezs, hzs, lzs⟩ : ∃ zs : List (List Nat), zs = ((List.range (txs xs).length).filter fun n => decide (((xs.getD n []).length : Int) < 7)).map (fun n => xs.getD n []) ∧ (∀ z ∈ zs, Exch fs ms m z ∧ z.length < 7) ∧ zs.length ≤ 2000 := by
        refine ⟨_, rfl, fun z hz => ?_, ?_⟩
        · obtain ⟨i, hi, hf, rfl⟩ := given_mem.mp hz
          rw [txs_len] at hi
          have gd : xs.getD i [] = xs[i] := by rw [List.getD_eq_getElem?_getD, List.getElem?_eq_getElem hi]; rfl
          rw [gd] at hf ⊢
          have := of_decide_eq_true hf
          exact ⟨(mem _).mp (List.getElem_mem hi), by omega⟩
        · rw [List.length_map]
          refine Nat.le_trans (List.length_filter_le ..) ?_
          rw [List.length_range, txs_len]
          exact len
      rw [← ezs] at lc
      refine q_asgL lc fun D G2 nD e2 hD => ?_
      have bG2 : But1 b H G2 := bG.tr (But1.of (e1.trans e2))
      have hG2 : BagAt G2 b (n + 1 + i) := hG.same (e1.trans e2)
      refine s_when (b := !decide (zs.map stL = [])) (et_test (ev_neTx (ys := []) (.of (ev_var rfl) (by rw [← txs_str]; exact hD)) (.ofM (em_lst ea_nil (by decide))) (txs_ok fun z hz => (led_of ro (hzs z hz).1).sg wm.sg) (fun y hy => nomatch hy))) (fun hb G3 e3 => ?_) (fun hb G3 e3 => ⟨m, _, _, _, rfl, wm, (hG2.same e3).up (by omega), bG2.tr (But1.of e3)⟩)
      have hD3 := e3 _ _ hD
      have ne : zs ≠ [] := by simpa using hb
      have l1 : 1 ≤ zs.length := List.length_pos_iff.mpr ne
      refine ⟨_, rfl, _, rfl, _, rfl, D, txs zs, rfl, .inl (sq_of hD3), b, (zs.length : Int), n + 1 + i, by rw [txs_len]; rfl, hG2.same e3, by omega, by omega, by omega, fun r2 G4 h40 h41 hb4 ht4 => ?_⟩
      have nDb : D ≠ b := fun e => by
        obtain ⟨d, y, c, e6, _⟩ := hG.same e1
        have nD : G1 D = none := nD
        rw [e, e6] at nD
        cases nD
      obtain ⟨v, hv, hvm⟩ := atI_some (xs := txs zs) h40 (by rw [txs_len]; exact h41)
      obtain ⟨z, hz, rfl⟩ := List.mem_map.mp hvm
      obtain ⟨z1, z2⟩ := hzs z hz
      have ld := led_of ro z1
      refine ⟨D, _, r2, _, rfl, rfl, sq_of ((ht4 _ nDb).trans hD3), hv, z, _, _, _, rfl, ⟨ld.ge, by omega, ld.sg wm.sg⟩, hb4.up (by omega), (bG2.tr (But1.of e3)).tr fun x u ne e => (ht4 x ne).trans e⟩
    · rintro σ' G ⟨m, y3, y4, y5, rfl, wm, hG, bG⟩
      have hG : BagAt G b (n + 9) := hG.up (by omega)
      have m1 := wm.ge
      have m6 := wm.le
      refine ⟨_, rfl, b, 3, _, rfl, hG, by omega, by decide, by decide, fun r2 H2 h20 h21 hb2 ht2 => ⟨rfl, _, rfl, ite2 (fun _ => ?_) (fun _ => ?_)⟩⟩
      · have bH2 : But1 b H H2 := bG.tr fun x u ne e => (ht2 x ne).trans e
        refine ⟨_, rfl, _, rfl, stL m, rfl, sz_of (by rw [stL_len]; omega), b, (m.length : Int), _, by rw [stL_len]; rfl, hb2, by omega, by omega, by omega, fun r3 H3 h30 h31 hb3 ht3 => ?_⟩
        have bH3 : But1 b H H3 := bH2.tr fun x u ne e => (ht3 x ne).trans e
        obtain ⟨at', rfl⟩ := Int.eq_ofNat_of_zero_le h30
        refine ⟨_, rfl, _, rfl, (at' : Int), rfl, stL m, rfl, sz_of (by rw [stL_len]; omega), _, rfl, b, 1, _, rfl, hb3, by omega, by decide, by decide, fun l1 H4 wd1 hb4 but4 => ?_⟩
        rw [cut_to]
        have w1 := wd1.ge
        have w1' := wd1.le
        refine ⟨_, _, rfl, rfl, sz_of (by rw [stL_len, stL_len, List.length_take]; omega), _, rfl, _, rfl, _, rfl, b, 2, _, rfl, hb4, by omega, by decide, by decide, fun r4 H5 h50 h51 hb5 ht5 => ?_⟩
        obtain ⟨k4, rfl⟩ := Int.eq_ofNat_of_zero_le h50
        refine ⟨_, _, rfl, rfl, _, rfl, stL m, rfl, sz_of (by rw [stL_len]; omega), ?_⟩
        have ei : ((at' : Int) + (k4 : Int)) = ((at' + k4 : Nat) : Int) := (Int.natCast_add ..).symm
        rw [ei, cut_from, stL_app]
        refine ⟨_, _, rfl, rfl, sz_of (by rw [stL_len, stL_len, List.length_append, List.length_take, List.length_drop]; omega), ?_⟩
        rw [stL_app]
        have bH5 : But1 b H H5 := (bH3.tr but4).tr fun x u ne e => (ht5 x ne).trans e
        have wm2 : ∀ c ∈ (m.take at' ++ l1) ++ m.drop (at' + k4), sgn c = true := fun c hc => by
          rcases List.mem_append.mp hc with hc | hc
          · rcases List.mem_append.mp hc with hc | hc
            · exact wm.sg c (List.mem_of_mem_take hc)
            · exact wd1.sg c hc
          · exact wm.sg c (List.mem_of_mem_drop hc)
        have ln2 : ((m.take at' ++ l1) ++ m.drop (at' + k4)).length ≤ 100 ∧ 1 ≤ ((m.take at' ++ l1) ++ m.drop (at' + k4)).length := by
          rw [List.length_append, List.length_append, List.length_take, List.length_drop]
          omega
        generalize (m.take at' ++ l1) ++ m.drop (at' + k4) = m2 at wm2 ln2
        exact s_ret (ev_is (ev_cutTo (i := ((6 : Nat) : Int)) (ev_var rfl) ev_c (by rw [stL_len]; omega)) (by rw [cut_to])) fun G2 e2 => q (m2.take 6) G2 ⟨by rw [List.length_take]; omega, by rw [List.length_take]; omega, fun c hc => wm2 c (List.mem_of_mem_take hc)⟩ ((hb5.same e2).up (by omega)) (bH5.tr (But1.of e2))
      · have bH2 : But1 b H H2 := bG.tr fun x u ne e => (ht2 x ne).trans e
        exact s_ret (ev_is (ev_cutTo (i := ((6 : Nat) : Int)) (ev_var rfl) ev_c (by rw [stL_len]; omega)) (by rw [cut_to])) fun G2 e2 => q (m.take 6) G2 ⟨by rw [List.length_take]; omega, by rw [List.length_take]; omega, fun c hc => wm.sg c (List.mem_of_mem_take hc)⟩ ((hb2.same e2).up (by omega)) (bH2.tr (But1.of e2))
theorem ok__law_is_way {f f2 : Addr} {fd fd2 : FuncData} {k : Nat} (F : Fun K "_law_is_way" "_law_is_way" s__law_is_way f fd) (T : Txt K mg) (C__law_exchanges : Cal P w K mg base CX0 k "_law_exchanges" ["_law_rule_here", "_law_word_here"] spLEx f2 fd2) :
    FnOk P w K mg base CX0 (k + 1) f fd ["_law_rule_here", "_law_one", "_law_other_here", "_law_thing"] spLWay := by
  refine F.ok sc__law_is_way (fun vs H Q E h => ?_) (fun cdv A' outer s H vs Q E hr h => ?_)
  · obtain ⟨t, pf, pm, fs, ms, o, e, p, ws, rfl, _⟩ := h
    rfl
  · obtain ⟨t, pf, pm, fs, ms, o, e, p, ws, rfl, hr0, ro, h7, hp, sh, l30, st, q⟩ := h
    refine ⟨_, (pss_cons (ps_if (PW.pt (pw_or (pt_not (pt_val (pe_callB call_isi (by rfl) T.b_isinstance (by decide +kernel) (pa_cons (pv 3) (pa_cons (pe_bltn (v := .ty "list") (by rfl) T.b_list (by decide +kernel) rfl) pa_nil))))) (pw_or (pt_cmpR (op_eqD hr.units) (pv 3) (pe_lstS pa_nil) (nomark _)) (pw_or (pt_cmpR op_ne (pe_ix ix_list (pv 3) pe_int (fun _ _ => rfl)) (pv 1) (nomark _)) (pw_or1 (pt_cmpR op_ne (pe_ix ix_list (pv 3) (pe_un un_neg pe_int) (fun _ _ => rfl)) (pv 2) (nomark _))))))) (pss_one (ps_ret pe_bl)) pss_nil)
      (pss_one (ps_ret (pe_callB (cr_all rfl) (by rfl) T.b_all (by decide +kernel) (pa_cons (pe_lc (own := [("_law_k", 4)]) (g := gName 4) (tt := tYes) rfl sc__law_is_way.nd (pi_range1 (by rfl) T.b_range (pa_cons (pe_op op_sub (pe_callB (call_lenK (K := K) rfl) (by rfl) T.b_len PySem.boot_len (pa_cons (pv 3) pa_nil)) pe_int) pa_nil)) (blkOk_by (own := [("_law_k", 4)]) (N := sc__law_is_way_N) (sc := defScope s__law_is_way) (by decide +kernel)) (fun _ _ _ _ _ => (pg_name (i := 4) sc__law_is_way.nd rfl (Or.inl rfl))) (fun _ _ _ _ _ => pts_nil) (fun _ _ _ _ _ => (pe_cmpR (show OpR _ (compareOp .In) (rIn K false) from op_in_seq) (pe_ix (show IxR _ (rIxL K) from ix_list) (pv 3) (pe_op op_add (pv 4) pe_int) (fun _ _ => rfl)) (pe_call C__law_exchanges.ok hr (by rfl) C__law_exchanges.mg C__law_exchanges.kp C__law_exchanges.b .nil pass0 (pa_cons (pv 0) (pa_cons (pe_ix (show IxR _ (rIxL K) from ix_list) (pv 3) (pv 4) (fun _ _ => rfl)) pa_nil))) (by rfl)))) pa_nil))))), ?_⟩
    obtain ⟨d0, e0⟩ : ∃ d, ws = o :: d := by
      have h2 := sh.hd
      cases ws with
      | nil => cases h2
      | cons y r => cases h2; exact ⟨r, rfl⟩
    obtain ⟨d1, e1⟩ : ∃ d, ws = d ++ [e] := by
      have h2 := sh.la
      cases hr : ws.reverse with
      | nil => rw [hr] at h2; cases h2
      | cons y r =>
        rw [hr] at h2
        cases h2
        exact ⟨r.reverse, by rw [← List.reverse_reverse ws, hr, List.reverse_cons]⟩
    have lw := sh.ln
    have p0 := hp
    have p1 := hp
    rw [show txs ws = .str (stL o) :: txs d0 by rw [e0]; rfl] at p0
    rw [show txs ws = txs d1 ++ [V.str (stL e)] by rw [e1]; exact txs_app ..] at p1
    refine q_when (b := false) (et_is (et_or (et_not (et_B (ev_isiL (ev_var rfl) hp))) fun _ => et_or (et_test (ev_eqTx (ys := []) (.of (ev_var rfl) (by rw [← txs_str]; exact hp)) (.ofM (em_lst ea_nil (by decide))) (txs_ok fun x hx => (sh.sz x hx).2.2) (fun y hy => nomatch hy))) fun _ =>
      et_or (et_test (ev_neS (ev_op (ev_var rfl) ev_c (rv_ixL (sq_of p0) (atI_nat (j := 0) rfl))) (ev_var rfl))) fun _ => et_test (ev_neS (ev_op (ev_var rfl) (ev_un ev_c ru_neg) (rv_ixL (sq_of p1) (atI_fin _ _))) (ev_var rfl))) (by rw [e0]; simp)) (fun z => nomatch z) fun _ H2 s2 => ?_
    have wl : 1 ≤ ws.length := by rw [e0]; exact Nat.succ_pos _
    have hp2 := s2 _ _ hp
    have lc := el_lcR1 (σ := start sc__law_is_way_N [.ref t, .str (stL o), .str (stL e), .ref p]) (H := H2) (te := tOp (rIn K false) (tOp (rIxL K) (tVar 3) (tOp (rI0 fun i j => .int (i + j)) (tVar 4) (tC (.int 1)))) (tCall spLEx [] E0 (tCons (tVar 0) (tCons (tOp (rIxL K) (tVar 3) (tVar 4)) tNil)))) (t := tYes) (j := 4) (vs := [4]) (n := ((ws.length - 1 : Nat) : Int))
      (fun _ => true) (fun _ => .bl true) (ea_cons (ev_is (ev_op (ev_lenL (K := K) (xs := txs ws) (ev_var (i := 3) rfl) (sq_of hp2)) (ev_c (v := .int 1)) (rv_I0 (g := fun i j => .int (i - j)))) (by rw [txs_len]; congr 1; omega)) ea_nil) (by omega) (fun _ => rfl) (fun _ _ _ _ => et_yes)
      (fun i H3 e3 hi _ => by
        obtain ⟨x, hx⟩ : ∃ x, ws[i]? = some x := ⟨_, List.getElem?_eq_getElem (by omega)⟩
        obtain ⟨z, hz⟩ : ∃ z, ws[i + 1]? = some z := ⟨_, List.getElem?_eq_getElem (by omega)⟩
        have sx := sh.sz x (List.mem_of_getElem? hx)
        exact ev_inLEx (ev_op (ev_var rfl) (ev_addN (n := 1) (ev_var rfl) ev_c) (rv_ixL (sq_of (e3 _ _ hp2)) (atI_nat (txs_get hz)))) (ea_cons (ev_var rfl) (ea_cons (ev_op (ev_var rfl) (ev_var rfl) (rv_ixL (sq_of (e3 _ _ hp2)) (atI_nat (txs_get hx)))) ea_nil)) (hr0.on (s2.trans e3)) ro h7 sx.2.1 (st i x z hx hz))
    have gb : ∀ n, given n (fun _ => true) (fun _ => V.bl true) = (List.replicate n true).map V.bl := fun n => by
      unfold given
      rw [List.filter_eq_self.mpr fun _ _ => rfl]
      refine List.ext_getElem (by simp) fun i h1 h2 => by simp
    rw [gb] at lc
    exact s_ret (ev_is (ev_all lc) (by simp)) fun H3 e3 => q H3 (s2.trans e3)
theorem ok__law_first_index {f : Addr} {fd : FuncData} {k : Nat} (F : Fun K "_law_first_index" "_law_first_index" s__law_first_index f fd) (T : Txt K mg) :
    FnOk P w K mg base CX0 (k + 1) f fd ["_law_one", "_law_other_here"] spFirst := by
  refine F.ok sc__law_first_index (fun vs H Q E h => ?_) (fun cdv A' outer s H vs Q E hr h => ?_)
  · obtain ⟨l, m, n, rfl, _⟩ := h
    rfl
  · obtain ⟨l, m, n, rfl, hl, hm, hp, q⟩ := h
    refine ⟨_, (pss_cons (ps_for PassesOwn.never rfl (pi_range1 (by rfl) T.b_range (pa_cons (pe_callB call_len_str (by rfl) T.b_len PySem.boot_len (pa_cons (pv 0) pa_nil)) pa_nil)) (pg_name (i := 2) sc__law_first_index.nd rfl (Or.inl rfl)) (pss_one (ps_if (pt_cmpR op_ne (pe_ix ix_str (pv 0) (pv 2) (fun _ _ => rfl)) (pe_slice sl_str (pv 1) (po_some (pv 2)) (po_some (pe_op op_add (pv 2) pe_int))) (nomark _)) (pss_one (ps_ret (pv 2))) pss_nil)))
      (pss_one (ps_ret (pe_callB call_len_str (by rfl) T.b_len PySem.boot_len (pa_cons (pv 0) pa_nil))))), ?_⟩
    have le : n ≤ l.length := by
      by_cases h : n ≤ l.length
      · exact h
      · have h1 := hp.1 l.length (by omega)
        rw [List.getElem?_eq_none (Nat.le_refl _)] at h1
        have h2 := List.getElem?_eq_none_iff.mp h1.symm
        exact absurd (by rw [List.getElem?_eq_none (by omega), List.getElem?_eq_none (by omega)]) hp.2
    refine q_forR1 (n := (l.length : Int)) (ea_cons (ev_is (ev_lenS (ev_var rfl) (by rw [stL_len]; omega)) (by rw [stL_len])) ea_nil) (by omega)
      (fun i σ' G => ∃ y, σ' = [some (.str (stL l)), some (.str (stL m)), y] ∧ Ex H G ∧ i ≤ n) (fun H1 e => ⟨_, rfl, e, Nat.zero_le _⟩) ?_ ?_
    · rintro i σ' G hi ⟨y, rfl, e, hin⟩
      obtain ⟨c, hc⟩ : ∃ c, l[i]? = some c := ⟨_, List.getElem?_eq_getElem (by omega)⟩
      refine s_when (b := !decide (i < n)) (et_is (et_test (ev_neS (ev_is (ev_ixC (ev_var rfl) (ev_var rfl) (by omega) hc) (show V.str (sgS c) = V.str (stL (l[i]?).toList) by rw [hc]; rfl)) (ev_cutOne (ev_var rfl) (ev_var rfl) (ev_addN (n := 1) (ev_var rfl) ev_c) (by omega)))) ?_) (fun hb G1 e1 => ?_) (fun hb G1 e1 => ⟨_, rfl, e.trans e1, ?_⟩)
      · congr 1
        rw [decide_eq_decide]
        constructor
        · intro h
          by_cases h2 : i < n
          · exact h2
          · have : i = n := by omega
            subst this
            exact absurd (opt_list (stL_inj h)) hp.2
        · intro h
          rw [hp.1 i h]
      · have : i = n := by
          by_cases h2 : i < n
          · rw [decide_eq_true h2] at hb
            cases hb
          · omega
        subst this
        exact s_ret (ev_var rfl) fun G2 e2 => q G2 ((e.trans e1).trans e2)
      · by_cases h2 : i < n
        · omega
        · rw [decide_eq_false h2] at hb
          cases hb
    · rintro σ' G ⟨y, rfl, e, hin⟩
      have hin : ((l.length : Int)).toNat ≤ n := hin
      have : n = l.length := by omega
      exact s_ret (ev_is (ev_lenS (ev_var rfl) (by rw [stL_len]; omega)) (by rw [stL_len, this])) fun G2 e2 => q G2 (e.trans e2)
end
end Nm


set_option Elab.async false
set_option linter.all false
set_option maxRecDepth 100000
set_option maxHeartbeats 4000000
namespace Nm
open PySem PySem.Spec PyProof.Rows L2 Evl
/-! ### what is right of two words -/
abbrev s__law_right : Stmt := top 56
abbrev sc__law_right_N : List Str := ["_law_rule_here", "_law_table", "_law_one", "_law_other_here", "_law_first", "_law_second", "_law_told", "_law_found", "_law_text"]
theorem sc__law_right : FnScope sc__law_right_N ["_law_rule_here", "_law_table", "_law_one", "_law_other_here"] (defScope s__law_right) := ⟨rfl, rfl, rfl, by decide +kernel, rfl, by decide +kernel, by decide +kernel⟩
theorem exAt {H G : Hp} {a : Addr} {o : HO} (h : H a = some o) (e : Ex H G) : G a = some o := e a o h
local macro_rules | `(tactic| walk_at "ex") => `(tactic| first | exact Ex.refl _ | assumption | (refine Ex.trans ?_ (by assumption); walk_at "ex") | (refine Ex.mut ?_ ?_ <;> first | assumption | walk_at "ex"))
local macro_rules | `(tactic| walk_at "lf") => `(tactic| first | assumption | (refine exAt (by assumption) ?_; walk_at "ex") | (refine TabAt.same (by assumption) ?_; walk_at "ex") | (refine RuleIn.on (by assumption) ?_; walk_at "ex") | (refine BagAt.same (by assumption) ?_; walk_at "ex"))
def spRight (C : Addr) : Sp := fun vs H Q _ => ∃ t a pf pm fs ms l m, vs = [.ref t, .ref a, .str (stL l), .str (stL m)] ∧ RuleIn H t pf pm fs ms ∧ TabAt C H a fs ms ∧ RuleOk fs ms ∧ fs.length ≤ 7 ∧ Wd l 12 ∧ Wd m 12 ∧ RetV (.bl true) H Q
def dWay (ws : List (List Nat)) : PyData := .list (ws.map fun x => .str (stL x))
def dBoth (ws : List (List Nat)) : PyData := .list [dWay ws, .tuple [.str "one", dWay ws]]
def Low (ws : List (List Nat)) : Prop := ∀ x ∈ ws, x.length ≤ 36 ∧ ∀ c ∈ x, c < 1000
theorem way_show : ∀ ws : List (List Nat), PyData.showableAll (ws.map fun x => .str (stL x)) = true
  | [] => rfl
  | x :: r => by
    have ih := way_show r
    rw [List.map_cons]
    unfold PyData.showableAll
    rw [ih]
    rfl
theorem way_leaves : ∀ {ws : List (List Nat)}, Low ws → PyData.leavesShortAll 40 (ws.map fun x => .str (stL x)) = true
  | [], _ => rfl
  | x :: r, h => by
    have ih := way_leaves (ws := r) fun y hy => h y (List.mem_cons_of_mem _ hy)
    rw [List.map_cons]
    unfold PyData.leavesShortAll
    rw [ih, Bool.and_true]
    simp only [PyData.leavesShort]
    exact low_sh (h x (List.mem_cons_self ..)).2
theorem way_depth : ∀ ws : List (List Nat), PyData.depthAll (ws.map fun x => .str (stL x)) = 0
  | [] => rfl
  | x :: r => by
    have ih := way_depth r
    rw [List.map_cons]
    unfold PyData.depthAll
    rw [ih]
    rfl
theorem way_bulk : ∀ {ws : List (List Nat)}, Low ws → PyData.bulkAll (ws.map fun x => .str (stL x)) ≤ 37 * ws.length
  | [], _ => Nat.le_refl _
  | x :: r, h => by
    have ih := way_bulk (ws := r) fun y hy => h y (List.mem_cons_of_mem _ hy)
    have e1 : (stL x).cps.size ≤ 36 := by rw [← Array.length_toList, stL_codes]; exact (h x (List.mem_cons_self ..)).1
    rw [List.map_cons]
    unfold PyData.bulkAll
    have e2 : PyData.bulk (.str (stL x)) = (stL x).cps.size := by simp only [PyData.bulk]
    rw [e2, List.length_cons]
    omega
theorem both_fit {ws : List (List Nat)} (h : Low ws) (hl : ws.length ≤ 2800) : Fit (dBoth ws) := by
  have a1 : PyData.showable (dWay ws) = true := by simpa [dWay, PyData.showable] using way_show ws
  have a2 : PyData.leavesShort 40 (dWay ws) = true := by simpa [dWay, PyData.leavesShort] using way_leaves h
  have a3 : PyData.bulk (dWay ws) ≤ 37 * ws.length := by simpa [dWay, PyData.bulk] using way_bulk h
  have a4 : PyData.depth (dWay ws) = 1 := by simp [dWay, PyData.depth, way_depth]
  have a5 : PyData.leavesShort 40 (.str "one") = true := by decide +kernel
  have a6 : PyData.bulk (.str "one") = 3 := by decide +kernel
  refine ⟨?_, ?_, ?_, ?_⟩
  · simp only [dBoth, PyData.showable, PyData.showableAll, a1, Bool.and_self]
  · simp only [dBoth, PyData.leavesShort, PyData.leavesShortAll, a2, Bool.and_self, Bool.and_true]
    exact a5
  · simp only [dBoth, PyData.bulk, PyData.bulkAll] at a6 ⊢
    omega
  · simp only [dBoth, PyData.depth, PyData.depthAll, a4]
    decide
theorem way_dz {H : Hp} {p : Addr} {ws : List (List Nat)} (h : H p = some (.lst (txs ws))) : Dz H (.ref p) (dWay ws) := by
  have : ∀ ws : List (List Nat), DzAll H (txs ws) (ws.map fun x => .str (stL x)) := fun ws => by
    induction ws with
    | nil => exact .nil
    | cons x r ih => exact .cons (.str _) ih
  exact .lst h (this ws)
theorem both_dz {H : Hp} {q p t p' : Addr} {ws : List (List Nat)} (hq : H q = some (.lst [.ref p, .ref t])) (h : H p = some (.lst (txs ws))) (ht : H t = some (.tup [.str "one", .ref p'])) (h' : H p' = some (.lst (txs ws))) : Dz H (.ref q) (dBoth ws) :=
  .lst hq (.cons (way_dz h) (.cons (.tup ht (.cons (.str _) (.cons (way_dz h') .nil))) .nil))
theorem sp_holdsV {C : Addr} {H : Hp} {a r : Addr} {fs : Fds} {ms : Mks} {o t : List Nat} (ht : TabAt C H a fs ms) (ro : RuleOk fs ms)
    (h : (∃ p ws, H r = some (.tup [.str "one", .ref p]) ∧ H p = some (.lst (txs ws)) ∧ Shown fs ms o t ws ∧ Steps (Exch fs ms) ws) ∨ ∃ n : Nat, H r = some (.tup [.str "two", .int (n : Int)]) ∧ Wd o 40 ∧ Wd t 40 ∧ Parts (keyL fs ms o) (keyL fs ms t) n) :
    SpV (spHolds C) ([.ref a, .str (stL o), .str (stL t), .ref r] ++ []) H (.bl true) := fun H1 e Q q _ => ⟨a, fs, ms, o, t, r, rfl, ht.same e, ro, by
      rcases h with ⟨p, ws, h1, h2, sh, st⟩ | ⟨n, h1, wo, wt, pa⟩
      · exact .inl ⟨p, ws, e _ _ h1, e _ _ h2, sh, .inl ⟨st, q⟩⟩
      · exact .inr ⟨n, e _ _ h1, wo, wt, pa, q⟩⟩
theorem ev_holdsN {C a p : Addr} {ta tb tc td : TE} {σ : L2.St} {H : Hp} {fs : Fds} {ms : Mks} {o t : List Nat} {ws : List (List Nat)} (h1 : Ev ta σ H (.ref a)) (ht : TabAt C H a fs ms) (ro : RuleOk fs ms) (h2 : Ev tb σ H (.str (stL o))) (h3 : Ev tc σ H (.str (stL t))) (h4 : Ev td σ H (.ref p)) (hp : H p = some (.lst (txs ws))) (sh : Shown fs ms o t ws) (st : Steps (Exch fs ms) ws) :
    Ev (tCall (spHolds C) [] E0 (tCons ta (tCons tb (tCons tc (tCons (tTup (tCons (tC (.str "one")) (tCons td tNil))) tNil))))) σ H (.bl true) := fun H1 e Q q =>
  h1 H1 e _ fun H2 e2 => h2 H2 (e.trans e2) _ fun H3 e3 => h3 H3 ((e.trans e2).trans e3) _ fun H4 e4 => h4 H4 (((e.trans e2).trans e3).trans e4) _ fun H5 e5 => ⟨by show 2 ≤ sizeLine; rw [sizeLine_eq]; decide, fun r nr => by
    have e6 := Ex.new (o := .tup [.str "one", .ref p]) nr
    have back : Ex H1 (upd H5 r (.tup [.str "one", .ref p])) := (e2.trans e3).trans ((e4.trans e5).trans e6)
    exact ⟨a, fs, ms, o, t, r, rfl, ht.same (e.trans back), ro, .inl ⟨p, ws, upd_same, (e.trans back) _ _ hp, sh, .inl ⟨st, fun H6 e7 => q H6 (back.trans e7)⟩⟩⟩⟩
theorem sp_lway {H : Hp} {t pf pm p : Addr} {fs : Fds} {ms : Mks} {o e : List Nat} {ws : List (List Nat)} (hr : RuleIn H t pf pm fs ms) (ro : RuleOk fs ms) (h7 : fs.length ≤ 7) (hp : H p = some (.lst (txs ws))) (sh : Shown fs ms o e ws) (hl : ws.length ≤ 30000) (st : Steps (Exch fs ms) ws) :
    SpV spLWay ([.ref t, .str (stL o), .str (stL e), .ref p] ++ []) H (.bl true) := fun H1 x Q q _ => ⟨t, pf, pm, fs, ms, o, e, p, ws, rfl, hr.on x, ro, h7, x _ _ hp, sh, hl, st, q⟩
theorem ev_isN {te : TE} {σ : L2.St} {H : Hp} {x : V} (h : Ev te σ H x) : Ev (tOp (fun x y H Q => y = V.non ∧ Q (V.bl (decide (x = V.non))) H) te (tC .non)) σ H (.bl (decide (x = .non))) := ev_op h ev_c fun H3 e3 Q q => ⟨rfl, q H3 (Ex.refl _)⟩
theorem sp_first {H : Hp} {l m : List Nat} {n : Nat} (hl : l.length ≤ 5000) (hm : m.length ≤ 5000) (hp : Parts l m n) : SpV spFirst ([.str (stL l), .str (stL m)] ++ []) H (.int (n : Int)) := fun H1 e Q q _ => ⟨l, m, n, rfl, hl, hm, hp, q⟩
theorem ev_eqTwo {K : Fg} {ta tb : TE} {σ : L2.St} {H : Hp} {r : Addr} {n : Nat} (h1 : Ev ta σ H (.ref r)) (hr : H r = some (.tup [.str "two", .int (n : Int)])) (h2 : Ev tb σ H (.int (n : Int))) : Ev (tOp (rEqD K) ta (tTup (tCons (tC (.str "two")) (tCons tb tNil)))) σ H (.bl true) := fun H1 e Q q =>
  h1 H1 e _ fun H2 e2 => eu_tup (ea_cons ev_c (ea_cons h2 ea_nil)) (by show 2 ≤ 100000; decide) H2 (e.trans e2) _ fun p H3 _ e3 hp => by
    have d1 : SeqAt.shaped (PyData.tuple [.str "two", .int (n : Int)]) = true := by
      have : PyData.canLay0 (.str "two") = true := by decide +kernel
      simp only [SeqAt.shaped, PyData.canLay0, PyData.canLayAll0, PyData.depth, PyData.depthAll] at this ⊢
      rw [this]
      rfl
    have d2 : PyData.eqv (.tuple [.str "two", .int (n : Int)]) (.tuple [.str "two", .int (n : Int)]) = true := SeqAt.eqv_refl _ (by
      unfold SeqAt.shaped at d1
      exact (Bool.and_eq_true_iff.mp d1).1)
    refine ⟨_, _, .tup (st_of (((e.trans e2).trans e3) _ _ hr)) (.cons (.str _) (.cons (.int _) .nil)), .tup (st_of hp) (.cons (.str _) (.cons (.int _) .nil)), d1, d1, ?_⟩
    rw [d2]
    exact q H3 (e2.trans e3)
theorem ev_reprBoth {ta tb : TE} {σ : L2.St} {H : Hp} {p t p' : Addr} {ws : List (List Nat)} (h1 : Ev ta σ H (.ref p)) (h2 : Ev tb σ H (.ref t)) (hp : H p = some (.lst (txs ws))) (ht : H t = some (.tup [.str "one", .ref p'])) (hp' : H p' = some (.lst (txs ws))) (f : Fit (dBoth ws)) :
    Ev (tCB rReprZ (tCons (tLstS (tCons ta (tCons tb tNil))) tNil)) σ H (.str (dBoth ws).shown) := fun H1 e Q q =>
  show (tLstS (tCons ta (tCons tb tNil))) σ H1 (fun v G => rReprZ [v] G Q) from em_lst (ea_cons h1 (ea_cons h2 ea_nil)) (by show 2 ≤ 100000; decide) H1 e _ fun r H2 _ _ e2 hr => ⟨.ref r, dBoth ws, rfl, both_dz hr ((e.trans e2) _ _ hp) ((e.trans e2) _ _ ht) ((e.trans e2) _ _ hp'), f, q H2 e2⟩
theorem ev_reprNew {C a : Addr} {tA tB : TA} {σ : L2.St} {H : Hp} {fs : Fds} {ms : Mks} {l m : List Nat} {d1 d2 : List (List Nat)} {ws : List (List Nat)} (h1 : EvA tA σ H [.ref a, .str (stL l), .str (stL m)]) (h2 : EvA tB σ H [.ref a, .str (stL l), .str (stL m)]) (ht : TabAt C H a fs ms) (ro : RuleOk fs ms)
    (wo1 : WayOk fs ms l (d1 ++ [keyL fs ms l])) (wo2 : WayOk fs ms m (d2 ++ [keyL fs ms m])) (ek : keyL fs ms l = keyL fs ms m) (hws : metL (d1 ++ [keyL fs ms l]) (d2 ++ [keyL fs ms m]) = ws) (f : Fit (dBoth ws)) :
    Ev (tCB rReprZ (tCons (tLstS (tCons (tCall (spFind C) [] E0 tA) (tCons (tCall (spPaper C) [] E0 tB) tNil))) tNil)) σ H (.str (dBoth ws).shown) := fun H1 e Q q =>
  h1 H1 e _ fun H2 e2 => ⟨a, fs, ms, l, m, d1, _, d2, _, rfl, ht.same (e.trans e2), ro, wo1, wo2, .inl ⟨ek, fun p H3 np e3 hp => h2 H3 ((e.trans e2).trans e3) _ fun H4 e4 =>
    ⟨a, fs, ms, l, m, d1, _, d2, _, rfl, ht.same (((e.trans e2).trans e3).trans e4), ro, wo1, wo2, .inl ⟨ek, fun t p' H5 nt np' ne e5 h5 hp' => by
      rw [hws] at hp hp'
      refine ⟨by show 2 ≤ sizeLine; rw [sizeLine_eq]; decide, fun r nr _ => ?_⟩
      have e6 := Ex.new (o := .lst [.ref p, .ref t]) nr
      exact ⟨.ref r, dBoth ws, rfl, both_dz upd_same (((e4.trans e5).trans e6) _ _ hp) (e6 _ _ h5) (e6 _ _ hp'), f, q _ ((((e2.trans e3).trans e4).trans e5).trans e6)⟩⟩⟩⟩⟩
section
variable {P : Program} {w : World} {K : Fg} {mg : Str → Option Value} {base : Heap} {A : TabA}
theorem ok__law_right {f f1 f2 f3 f4 f5 f6 : Addr} {fd fd1 fd2 fd3 fd4 fd5 fd6 : FuncData} {k : Nat} (F : Fun K "_law_right" "_law_right" s__law_right f fd) (T : Txt K mg)
    (C__law_key : Cal P w K mg base CX0 k "_law_key" ["_law_rule_here", "_law_word_here"] spKey f1 fd1)
    (C_find_way : Cal P w K mg base CX0 k "find_way" ["table", "one", "other"] (spFind A.C) f2 fd2)
    (C_paper : Cal P w K mg base CX0 k "paper" ["table", "one", "other"] (spPaper A.C) f3 fd3)
    (C_holds : Cal P w K mg base CX0 k "holds" ["table", "one", "other", "thing"] (spHolds A.C) f4 fd4)
    (C__law_is_way : Cal P w K mg base CX0 k "_law_is_way" ["_law_rule_here", "_law_one", "_law_other_here", "_law_thing"] spLWay f5 fd5)
    (C__law_first_index : Cal P w K mg base CX0 k "_law_first_index" ["_law_one", "_law_other_here"] spFirst f6 fd6) :
    FnG P w K mg base CX0 (k + 1) f fd ["_law_rule_here", "_law_table", "_law_one", "_law_other_here"] (spRight A.C) := by
  refine okG F sc__law_right (fun vs H Q E h => ?_) (fun cdv A' outer s H vs Q E hG hr h => ?_)
  · obtain ⟨t, a, pf, pm, fs, ms, l, m, rfl, _⟩ := h
    rfl
  · obtain ⟨t, a, pf, pm, fs, ms, l, m, rfl, hr0, ht, ro, h7, wl, wm, q⟩ := h
    refine ⟨_, (pss_cons (ps_par (i := 4) (j := 5) (by rfl) sc__law_right.nd rfl rfl (by decide) rfl rfl (pa_cons (pe_call C__law_key.ok hr (by rfl) C__law_key.mg C__law_key.kp C__law_key.b .nil pass0 (pa_cons (pv 0) (pa_cons (pv 2) pa_nil))) (pa_cons (pe_call C__law_key.ok hr (by rfl) C__law_key.mg C__law_key.kp C__law_key.b .nil pass0 (pa_cons (pv 0) (pa_cons (pv 3) pa_nil))) pa_nil)) (by rfl))
      (pss_cons (ps_par (i := 6) (j := 7) (by rfl) sc__law_right.nd rfl rfl (by decide) rfl rfl (pa_cons (pe_call C_find_way.ok hr (by rfl) C_find_way.mg C_find_way.kp C_find_way.b .nil pass0 (pa_cons (pv 1) (pa_cons (pv 2) (pa_cons (pv 3) pa_nil)))) (pa_cons (pe_call C_paper.ok hr (by rfl) C_paper.mg C_paper.kp C_paper.b .nil pass0 (pa_cons (pv 1) (pa_cons (pv 2) (pa_cons (pv 3) pa_nil)))) pa_nil)) (by rfl))
      (pss_cons (ps_if (PW.pt (pw_or (pt_not (pt_val (pe_call C_holds.ok hr (by rfl) C_holds.mg C_holds.kp C_holds.b .nil pass0 (pa_cons (pv 1) (pa_cons (pv 2) (pa_cons (pv 3) (pa_cons (pv 7) pa_nil))))))) (pw_or (pt_not (pt_val (pe_callB call_isi (by rfl) T.b_isinstance (by decide +kernel) (pa_cons (pv 7) (pa_cons (pe_bltn (v := .ty "tuple") (by rfl) T.b_tuple (by decide +kernel) rfl) pa_nil))))) (pw_or1 (pt_cmpR op_ne (pe_callB call_len_seq (by rfl) T.b_len PySem.boot_len (pa_cons (pv 7) pa_nil)) pe_int (nomark _)))))) (pss_one (ps_ret pe_bl)) pss_nil)
      (pss_cons (ps_if (pt_cmpR op_ne (pv 4) (pv 5) (nomark _)) (pss_one (ps_ret (pe_and (pe_cmpR op_isN (pv 6) pe_non (nomark _)) (pe_one (pe_cmpR (op_eqD hr.units) (pv 7) (pe_tup (pa_cons pe_str (pa_cons (pe_call C__law_first_index.ok hr (by rfl) C__law_first_index.mg C__law_first_index.kp C__law_first_index.b .nil pass0 (pa_cons (pv 4) (pa_cons (pv 5) pa_nil))) pa_nil))) (nomark _)))))) pss_nil)
      (pss_cons (ps_if (PW.pt (pw_or (pt_cmpR op_ne (pe_ix ix_tup (pv 7) pe_int (fun _ _ => rfl)) pe_str (nomark _)) (pw_or1 (pt_not (pt_val (pe_call C_holds.ok hr (by rfl) C_holds.mg C_holds.kp C_holds.b .nil pass0 (pa_cons (pv 1) (pa_cons (pv 2) (pa_cons (pv 3) (pa_cons (pe_tup (pa_cons pe_str (pa_cons (pv 6) pa_nil))) pa_nil)))))))))) (pss_one (ps_ret pe_bl)) pss_nil)
      (pss_cons (ps_if (pt_not (pt_val (pe_call C__law_is_way.ok hr (by rfl) C__law_is_way.mg C__law_is_way.kp C__law_is_way.b .nil pass0 (pa_cons (pv 0) (pa_cons (pv 2) (pa_cons (pv 3) (pa_cons (pe_ix ix_tup (pv 7) pe_int (fun _ _ => rfl)) pa_nil))))))) (pss_one (ps_ret pe_bl)) pss_nil)
      (pss_cons (ps_set (i := 8) sc__law_right.nd rfl (Or.inl rfl) (pe_callB (call_reprZ hG hr.units) (by rfl) T.b_repr (by decide +kernel) (pa_cons (pe_lstS (pa_cons (pv 6) (pa_cons (pv 7) pa_nil))) pa_nil)))
      (pss_cons (ps_expr (pe_bm PySem.F.plainAttrs_list PySem.F.slot_list_append PySem.F.type_list_append mt_append (pv 6) (pa_cons pe_str pa_nil)))
      (pss_cons (ps_expr (pe_bm PySem.F.plainAttrs_list PySem.F.slot_list_append PySem.F.type_list_append mt_append (pe_ix ix_tup (pv 7) pe_int (fun _ _ => rfl)) (pa_cons pe_str pa_nil)))
      (pss_one (ps_ret (pe_cmpR op_eq (pe_callB (call_reprZ hG hr.units) (by rfl) T.b_repr (by decide +kernel) (pa_cons (pe_lstS (pa_cons (pe_call C_find_way.ok hr (by rfl) C_find_way.mg C_find_way.kp C_find_way.b .nil pass0 (pa_cons (pv 1) (pa_cons (pv 2) (pa_cons (pv 3) pa_nil)))) (pa_cons (pe_call C_paper.ok hr (by rfl) C_paper.mg C_paper.kp C_paper.b .nil pass0 (pa_cons (pv 1) (pa_cons (pv 2) (pa_cons (pv 3) pa_nil)))) pa_nil))) pa_nil)) (pv 8) (nomark _))))))))))))), ?_⟩
    have k1 : Wd (stL l).cps.toList 100 := by rw [stL_codes]; exact wl.up (by decide)
    have k2 : Wd (stL m).cps.toList 100 := by rw [stL_codes]; exact wm.up (by decide)
    obtain ⟨d1, wo1, wy1⟩ := way_of ro wl
    obtain ⟨d2, wo2, wy2⟩ := way_of ro wm
    refine ⟨_, rfl, _, rfl, t, pf, pm, stL l, fs, ms, rfl, hr0.1, hr0.2.1, hr0.2.2, ro, k1, fun H1 e1 => ?_⟩
    have hr1 := hr0.on e1
    refine ⟨_, rfl, _, rfl, t, pf, pm, stL m, fs, ms, rfl, hr1.1, hr1.2.1, hr1.2.2, ro, k2, fun H2 e2 => ⟨_, _, rfl, ?_⟩⟩
    rw [stL_codes, stL_codes]
    have e02 := e1.trans e2
    by_cases ek : keyL fs ms l = keyL fs ms m
    · refine ⟨_, rfl, _, rfl, _, rfl, a, fs, ms, l, m, d1, _, d2, _, rfl, by walk_at "lf", ro, wo1, wo2, .inl ⟨ek, fun p H3 np e3 hp => ?_⟩⟩
      refine ⟨_, rfl, _, rfl, _, rfl, a, fs, ms, l, m, d1, _, d2, _, rfl, by walk_at "lf", ro, wo1, wo2, .inl ⟨ek, fun tp p' H4 ntp np' ne e4 htp hp' => ⟨_, _, rfl, ?_⟩⟩⟩
      have W := Way.met ro wy1 wy2 ek
      generalize hws : metL (d1 ++ [keyL fs ms l]) (d2 ++ [keyL fs ms m]) = ws at hp hp' W
      have sh : Shown fs ms l m ws := W.shown (by decide) (by decide)
      have lo : Low ws := fun x hx => ⟨(W.sz x hx).2.1, fun c hc => sgn_low ((W.sz x hx).2.2 c hc)⟩
      have ln : ws.length ≤ 2800 := W.ln
      have hp4 : H4 p = some (.lst (txs ws)) := by walk_at "lf"
      have ht4 : TabAt A.C H4 a fs ms := by walk_at "lf"
      refine q_when (b := false) (et_is (et_or (et_not (et_B (ev_call (ea_cons (ev_var rfl) (ea_cons (ev_var rfl) (ea_cons (ev_var rfl) (ea_cons (ev_var rfl) ea_nil)))) (sp_holdsV ht4 ro (.inl ⟨p', ws, htp, hp', sh, W.ch⟩))))) fun _ => et_or (et_not (et_B (ev_isiT (ev_var rfl) htp))) fun _ => et_test (ev_neI (ev_lenT (ev_var rfl) htp) ev_c)) rfl) (fun z => nomatch z) fun _ H5 e5 => ?_
      refine q_when (b := false) (et_is (et_test (ev_neS (ev_var rfl) (ev_var rfl))) (by rw [ek, decide_eq_true rfl]; rfl)) (fun z => nomatch z) fun _ H6 e6 => ?_
      have ht6 : TabAt A.C H6 a fs ms := by walk_at "lf"
      have htp6 : H6 tp = some (.tup [.str "one", .ref p']) := by walk_at "lf"
      have hp6 : H6 p = some (.lst (txs ws)) := by walk_at "lf"
      refine q_when (b := false) (et_is (et_or (et_test (ev_neS (ev_ixT (i := 0) (ev_var rfl) ev_c htp6 rfl) ev_c)) fun _ => et_not (et_B (ev_holdsN (ev_var rfl) ht6 ro (ev_var rfl) (ev_var rfl) (ev_var rfl) hp6 sh W.ch))) rfl) (fun z => nomatch z) fun _ H7 e7 => ?_
      have hr7 : RuleIn H7 t pf pm fs ms := by walk_at "lf"
      have htp7 : H7 tp = some (.tup [.str "one", .ref p']) := by walk_at "lf"
      have hp7' : H7 p' = some (.lst (txs ws)) := by walk_at "lf"
      refine q_when (b := false) (et_is (et_not (et_B (ev_call (ea_cons (ev_var rfl) (ea_cons (ev_var rfl) (ea_cons (ev_var rfl) (ea_cons (ev_ixT (i := 1) (ev_var rfl) ev_c htp7 rfl) ea_nil)))) (sp_lway hr7 ro h7 hp7' sh (by omega) W.ch)))) rfl) (fun z => nomatch z) fun _ H8 e8 => ?_
      have hp8 : H8 p = some (.lst (txs ws)) := by walk_at "lf"
      have hp8' : H8 p' = some (.lst (txs ws)) := by walk_at "lf"
      have htp8 : H8 tp = some (.tup [.str "one", .ref p']) := by walk_at "lf"
      have ft := both_fit lo ln
      refine q_asg (ev_reprBoth (ev_var rfl) (ev_var rfl) hp8 htp8 hp8' ft) fun H9 e9 => ?_
      have pp : p ≠ p' := fun e => by rw [← e, hp] at np'; cases np'
      have n2 : H p = none := fresh_back e02 np
      have n3 : H p' = none := fresh_back (e02.trans e3) np'
      have hp9 : H9 p = some (.lst (txs ws)) := by walk_at "lf"
      have hp9' : H9 p' = some (.lst (txs ws)) := by walk_at "lf"
      have htp9 : H9 tp = some (.tup [.str "one", .ref p']) := by walk_at "lf"
      have e09 : Ex H H9 := by walk_at "ex"
      refine q_app hp9 (ev_var rfl) ev_c (by rw [txs_len]; omega) fun H10 e10 => ?_
      have pt : tp ≠ p := ne_of htp9 hp9 (by intro z; cases z)
      have x1 : Ex H (upd H10 p (.lst (txs ws ++ [.str "changed"]))) := (e09.trans e10).mut n2
      have hp10' : (upd H10 p (.lst (txs ws ++ [.str "changed"]))) p' = some (.lst (txs ws)) := (upd_ne (Ne.symm pp)).trans (e10 _ _ hp9')
      have htp10 : (upd H10 p (.lst (txs ws ++ [.str "changed"]))) tp = some (.tup [.str "one", .ref p']) := (upd_ne pt).trans (e10 _ _ htp9)
      generalize upd H10 p (.lst (txs ws ++ [.str "changed"])) = G1 at x1 hp10' htp10
      refine q_app hp10' (ev_ixT (i := 1) (ev_var rfl) ev_c htp10 rfl) ev_c (by rw [txs_len]; omega) fun H11 e11 => ?_
      have x2 : Ex H (upd H11 p' (.lst (txs ws ++ [.str "changed"]))) := (x1.trans e11).mut n3
      generalize upd H11 p' (.lst (txs ws ++ [.str "changed"])) = G2 at x2
      have htG : TabAt A.C G2 a fs ms := ht.same x2
      exact s_ret (ev_is (ev_eqS (ev_reprNew (ea_cons (ev_var rfl) (ea_cons (ev_var rfl) (ea_cons (ev_var rfl) ea_nil))) (ea_cons (ev_var rfl) (ea_cons (ev_var rfl) (ea_cons (ev_var rfl) ea_nil))) htG ro wo1 wo2 ek hws ft) (ev_var rfl)) (by rw [decide_eq_true rfl])) fun H12 e12 => q H12 (x2.trans e12)
    · obtain ⟨n, pn⟩ := parts_ex ek
      refine ⟨_, rfl, _, rfl, _, rfl, a, fs, ms, l, m, d1, _, d2, _, rfl, by walk_at "lf", ro, wo1, wo2, .inr ⟨ek, fun H3 e3 => ?_⟩⟩
      refine ⟨_, rfl, _, rfl, _, rfl, a, fs, ms, l, m, d1, _, d2, _, rfl, by walk_at "lf", ro, wo1, wo2, .inr ⟨ek, wl.up (by decide), wm.up (by decide), n, pn, fun tp H4 e4 htp => ⟨_, _, rfl, ?_⟩⟩⟩
      have ht4 : TabAt A.C H4 a fs ms := by walk_at "lf"
      have c1 := (keyL_ok ro wl).1.le
      have c2 := (keyL_ok ro wm).1.le
      refine q_when (b := false) (et_is (et_or (et_not (et_B (ev_call (ea_cons (ev_var rfl) (ea_cons (ev_var rfl) (ea_cons (ev_var rfl) (ea_cons (ev_var rfl) ea_nil)))) (sp_holdsV ht4 ro (.inr ⟨n, htp, wl.up (by decide), wm.up (by decide), pn⟩))))) fun _ => et_or (et_not (et_B (ev_isiT (ev_var rfl) htp))) fun _ => et_test (ev_neI (ev_lenT (ev_var rfl) htp) ev_c)) rfl) (fun z => nomatch z) fun _ H5 e5 => ?_
      refine q_when (b := true) (et_is (et_test (ev_neS (ev_var rfl) (ev_var rfl))) (by rw [decide_eq_false fun e => ek (stL_inj e)]; rfl)) (fun _ H6 e6 => ?_) fun z => nomatch z
      have htp6 : H6 tp = some (.tup [.str "two", .int (n : Int)]) := by walk_at "lf"
      exact s_ret (ev_is (ev_andV (a := true) (b := true) (ev_is (ev_isN (ev_var rfl)) (by rw [decide_eq_true rfl])) fun _ => ev_eqTwo (ev_var rfl) htp6 (ev_call (ea_cons (ev_var rfl) (ea_cons (ev_var rfl) ea_nil)) (sp_first (by omega) (by omega) pn))) rfl) fun H7 e7 => q H7 (by walk_at "ex")
end
end Nm


set_option Elab.async false
set_option linter.all false
set_option maxRecDepth 100000
set_option maxHeartbeats 4000000
namespace Nm
open PySem PySem.Spec PyProof.Rows L2 Evl
/-! ### the law -/
abbrev s_law : Stmt := top 57
abbrev sc_law_N : List Str := ["_law_script", "_law_at", "_law_bag_here", "_law_turn", "_law_rule_here", "_law_table", "_law_one", "_law_other_here", "_law_long", "_law_least", "_law_told"]
theorem sc_law : FnScope sc_law_N ["_law_script"] (defScope s_law) := ⟨rfl, rfl, rfl, by decide +kernel, rfl, by decide +kernel, by decide +kernel⟩
local macro_rules | `(tactic| walk_at "ex") => `(tactic| first | exact Ex.refl _ | assumption | (refine Ex.trans ?_ (by assumption); walk_at "ex") | (refine Ex.mut ?_ ?_ <;> first | assumption | walk_at "ex"))
local macro_rules | `(tactic| walk_at "lf") => `(tactic| first | assumption | (refine exAt (by assumption) ?_; walk_at "ex") | (refine TabAt.same (by assumption) ?_; walk_at "ex") | (refine RuleIn.on (by assumption) ?_; walk_at "ex") | (refine BagAt.same (by assumption) ?_; walk_at "ex"))
def spLaw (K : Fg) : Sp := fun vs H Q _ => ∃ (a : Addr) (ns : List Int), vs = [.ref a] ∧ SqL K H a (ns.map V.int) ∧ ns.length ≤ 63 ∧ ∀ H', Q (.bl true) H'
def turns4 (n : Int) : Int := if (if n < 4 then n else 4) > 2 then (if n < 4 then n else 4) else 2
theorem turns4_le (n : Int) : 0 ≤ turns4 n ∧ turns4 n ≤ 4 := by
  unfold turns4
  split <;> split <;> omega
theorem sp_keyW {H : Hp} {t pf pm : Addr} {fs : Fds} {ms : Mks} {l : List Nat} (hr : RuleIn H t pf pm fs ms) (ro : RuleOk fs ms) (wd : Wd l 100) : SpV spKey ([.ref t, .str (stL l)] ++ []) H (.str (stL (keyL fs ms l))) := fun H1 e Q q E => by
  obtain ⟨h1, h2, h3⟩ := hr.on e
  refine ⟨t, pf, pm, stL l, fs, ms, rfl, h1, h2, h3, ro, by rw [stL_codes]; exact wd, ?_⟩
  rw [stL_codes]
  exact q
theorem sp_right {C : Addr} {H : Hp} {t a pf pm : Addr} {fs : Fds} {ms : Mks} {l m : List Nat} (hr : RuleIn H t pf pm fs ms) (ht : TabAt C H a fs ms) (ro : RuleOk fs ms) (h7 : fs.length ≤ 7) (wl : Wd l 12) (wm : Wd m 12) :
    SpV (spRight C) ([.ref t, .ref a, .str (stL l), .str (stL m)] ++ []) H (.bl true) := fun H1 e Q q _ => ⟨t, a, pf, pm, fs, ms, l, m, rfl, hr.on e, ht.same e, ro, h7, wl, wm, q⟩
theorem EvLR.call {C a : Addr} {tA : TA} {σ : L2.St} {H : Hp} {fs : Fds} {ms : Mks} {l m : List Nat} {d1 d2 : List (List Nat)} (h : EvA tA σ H [.ref a, .str (stL l), .str (stL m)]) (ht : TabAt C H a fs ms) (ro : RuleOk fs ms) (wo1 : WayOk fs ms l (d1 ++ [keyL fs ms l])) (wo2 : WayOk fs ms m (d2 ++ [keyL fs ms m]))
    (ek : keyL fs ms l = keyL fs ms m) : EvLR (tCall (spFind C) [] E0 tA) σ H (txs (metL (d1 ++ [keyL fs ms l]) (d2 ++ [keyL fs ms m]))) := fun H1 e Q q =>
  h H1 e _ fun H2 e2 => ⟨a, fs, ms, l, m, d1, _, d2, _, rfl, ht.same (e.trans e2), ro, wo1, wo2, .inl ⟨ek, fun p H3 _ e3 hp => q p H3 (e2.trans e3) hp⟩⟩
theorem ev_holdsR {C a : Addr} {ta tb tc td : TE} {σ : L2.St} {H : Hp} {fs : Fds} {ms : Mks} {o t : List Nat} {ws : List (List Nat)} (h1 : Ev ta σ H (.ref a)) (ht : TabAt C H a fs ms) (ro : RuleOk fs ms) (h2 : Ev tb σ H (.str (stL o))) (h3 : Ev tc σ H (.str (stL t))) (h4 : EvLR td σ H (txs ws)) (sh : Shown fs ms o t ws) (st : Steps (Exch fs ms) ws) :
    Ev (tCall (spHolds C) [] E0 (tCons ta (tCons tb (tCons tc (tCons (tTup (tCons (tC (.str "one")) (tCons td tNil))) tNil))))) σ H (.bl true) := fun H1 e Q q =>
  h1 H1 e _ fun H2 e2 => h2 H2 (e.trans e2) _ fun H3 e3 => h3 H3 ((e.trans e2).trans e3) _ fun H4 e4 => h4 H4 (((e.trans e2).trans e3).trans e4) _ fun p H5 e5 hp => ⟨by show 2 ≤ sizeLine; rw [sizeLine_eq]; decide, fun r nr => by
    have e6 := Ex.new (o := .tup [.str "one", .ref p]) nr
    have back : Ex H1 (upd H5 r (.tup [.str "one", .ref p])) := (e2.trans e3).trans ((e4.trans e5).trans e6)
    exact ⟨a, fs, ms, o, t, r, rfl, ht.same (e.trans back), ro, .inl ⟨p, ws, upd_same, e6 _ _ hp, sh, .inl ⟨st, fun H6 e7 => q H6 (back.trans e7)⟩⟩⟩⟩
theorem Wd.one {l : List Nat} {n : Nat} (h : Wd l n) : Wd (l.take 1) n := ⟨by rw [List.length_take]; have := h.ge; omega, by rw [List.length_take]; have := h.le; omega, fun c hc => h.sg c (List.mem_of_mem_take hc)⟩
section
variable {P : Program} {w : World} {K : Fg} {mg : Str → Option Value} {base : Heap} {A : TabA}
theorem ok_law {f f1 f2 f3 f4 f5 f6 f7 f8 : Addr} {fd fd1 fd2 fd3 fd4 fd5 fd6 fd7 fd8 fd9 : FuncData} {k : Nat} (F : Fun K "law" "law" s_law f fd) (T : Txt K mg) (TT : TabT K mg A)
    (C__law_bag : Cal P w K mg base CX0 k "_law_bag" ["_law_script", "_law_at"] (spBag K) f1 fd1)
    (C__law_rule : Cal P w K mg base CX0 k "_law_rule" ["_law_bag_here"] spRule f2 fd2)
    (C__law_word : Cal P w K mg base CX0 k "_law_word" ["_law_bag_here", "_law_most"] spWord f3 fd3)
    (C__law_key : Cal P w K mg base CX0 k "_law_key" ["_law_rule_here", "_law_word_here"] spKey f4 fd4)
    (C__law_other : Cal P w K mg base CX0 k "_law_other" ["_law_bag_here", "_law_rule_here", "_law_name"] spOther f5 fd5)
    (C_find_way : Cal P w K mg base CX0 k "find_way" ["table", "one", "other"] (spFind A.C) f6 fd6)
    (C_holds : Cal P w K mg base CX0 k "holds" ["table", "one", "other", "thing"] (spHolds A.C) f7 fd7)
    (C__law_right : CalG P w K mg base CX0 k "_law_right" ["_law_rule_here", "_law_table", "_law_one", "_law_other_here"] (spRight A.C) f8 fd8)
    (C_init : CalM P w K mg base CX0 k ["self", "folds", "marks"] (spInitT A.C) A.fi fd9) :
    FnG P w K mg base CX0 (k + 2) f fd ["_law_script"] (spLaw K) := by
  refine okG F sc_law (fun vs H Q E h => ?_) (fun cdv A' outer s H vs Q E hG hr h => ?_)
  · obtain ⟨a, ns, rfl, _⟩ := h
    rfl
  · obtain ⟨a, ns, rfl, hS, hl, q⟩ := h
    have hr1 : Room k _ := hr.mono (by omega)
    have hu := hu_of hr
    refine ⟨_, (pss_cons (ps_for PassesOwn.never rfl (pi_range1 (by rfl) T.b_range (pa_cons (pe_callB (call_max2 rfl) (by rfl) T.b_max (by decide +kernel) (pa_cons pe_int (pa_cons (pe_callB (call_min2 rfl) (by rfl) T.b_min (by decide +kernel) (pa_cons pe_int (pa_cons (pe_callB call_len_seq (by rfl) T.b_len PySem.boot_len (pa_cons (pv 0) pa_nil)) pa_nil))) pa_nil))) pa_nil)) (pg_name (i := 1) sc_law.nd rfl (Or.inl rfl)) (pss_cons (ps_set (i := 2) sc_law.nd rfl (Or.inl rfl) (pe_call C__law_bag.ok hr1 (by rfl) C__law_bag.mg C__law_bag.kp C__law_bag.b .nil pass0 (pa_cons (pv 0) (pa_cons (pv 1) pa_nil))))
      (pss_cons (ps_for PassesOwn.never rfl (pi_range1 (by rfl) T.b_range (pa_cons pe_int pa_nil)) (pg_name (i := 3) sc_law.nd rfl (Or.inl rfl)) (pss_cons (ps_set (i := 4) sc_law.nd rfl (Or.inl rfl) (pe_call C__law_rule.ok hr1 (by rfl) C__law_rule.mg C__law_rule.kp C__law_rule.b .nil pass0 (pa_cons (pv 2) pa_nil)))
      (pss_cons (ps_set (i := 5) sc_law.nd rfl (Or.inl rfl) (pe_make TT.mkT C_init.ok hr (by rfl) TT.mgC C_init.b .nil pass0 (pa_cons (pe_ix ix_tup (pv 4) pe_int (fun _ _ => rfl)) (pa_cons (pe_ix ix_tup (pv 4) pe_int (fun _ _ => rfl)) pa_nil))))
      (pss_cons (ps_set (i := 6) sc_law.nd rfl (Or.inl rfl) (pe_call C__law_word.ok hr1 (by rfl) C__law_word.mg C__law_word.kp C__law_word.b .nil pass0 (pa_cons (pv 2) (pa_cons pe_int pa_nil))))
      (pss_cons (ps_for PassesOwn.never rfl (pi_tup (pe_tup (pa_cons (pe_call C__law_other.ok hr1 (by rfl) C__law_other.mg C__law_other.kp C__law_other.b .nil pass0 (pa_cons (pv 2) (pa_cons (pv 4) (pa_cons (pv 6) pa_nil)))) (pa_cons (pe_call C__law_other.ok hr1 (by rfl) C__law_other.mg C__law_other.kp C__law_other.b .nil pass0 (pa_cons (pv 2) (pa_cons (pv 4) (pa_cons (pv 6) pa_nil)))) (pa_cons (pe_call C__law_word.ok hr1 (by rfl) C__law_word.mg C__law_word.kp C__law_word.b .nil pass0 (pa_cons (pv 2) (pa_cons pe_int pa_nil))) pa_nil))))) (pg_name (i := 7) sc_law.nd rfl (Or.inl rfl)) (pss_one (ps_if (pt_not (pt_val (pe_callG C__law_right.ok hG hr1 (by rfl) C__law_right.mg C__law_right.kp C__law_right.b .nil pass0 (pa_cons (pv 4) (pa_cons (pv 5) (pa_cons (pv 6) (pa_cons (pv 7) pa_nil))))))) (pss_one (ps_ret pe_bl)) pss_nil)))
      (pss_one (ps_if (PW.pt (pw_or (pt_not (pt_val (pe_callG C__law_right.ok hG hr1 (by rfl) C__law_right.mg C__law_right.kp C__law_right.b .nil pass0 (pa_cons (pv 4) (pa_cons (pv 5) (pa_cons (pe_slice sl_str (pv 6) po_none (po_some pe_int)) (pa_cons (pv 6) pa_nil))))))) (pw_or1 (pt_not (pt_val (pe_callG C__law_right.ok hG hr1 (by rfl) C__law_right.mg C__law_right.kp C__law_right.b .nil pass0 (pa_cons (pv 4) (pa_cons (pv 5) (pa_cons (pv 6) (pa_cons (pv 6) pa_nil)))))))))) (pss_one (ps_ret pe_bl)) pss_nil)))))))
      (pss_cons (ps_par (i := 8) (j := 9) (by rfl) sc_law.nd rfl rfl (by decide) rfl rfl (pa_cons (pe_call C__law_word.ok hr1 (by rfl) C__law_word.mg C__law_word.kp C__law_word.b .nil pass0 (pa_cons (pv 2) (pa_cons pe_int pa_nil))) (pa_cons (pe_call C__law_word.ok hr1 (by rfl) C__law_word.mg C__law_word.kp C__law_word.b .nil pass0 (pa_cons (pv 2) (pa_cons pe_int pa_nil))) pa_nil)) (by rfl))
      (pss_cons (ps_set (i := 10) sc_law.nd rfl (Or.inl rfl) (pe_call C_find_way.ok hr1 (by rfl) C_find_way.mg C_find_way.kp C_find_way.b .nil pass0 (pa_cons (pv 5) (pa_cons (pv 8) (pa_cons (pv 9) pa_nil)))))
      (pss_cons (ps_if (pt_cmpR op_ne (pe_cmpR op_isN (pv 10) pe_non (nomark _)) (pe_cmpR op_ne (pe_call C__law_key.ok hr1 (by rfl) C__law_key.mg C__law_key.kp C__law_key.b .nil pass0 (pa_cons (pv 4) (pa_cons (pv 8) pa_nil))) (pe_call C__law_key.ok hr1 (by rfl) C__law_key.mg C__law_key.kp C__law_key.b .nil pass0 (pa_cons (pv 4) (pa_cons (pv 9) pa_nil))) (nomark _)) (nomark _)) (pss_one (ps_ret pe_bl)) pss_nil)
      (pss_one (ps_if (pt_not (pt_val (pe_call C_holds.ok hr1 (by rfl) C_holds.mg C_holds.kp C_holds.b .nil pass0 (pa_cons (pv 5) (pa_cons (pv 8) (pa_cons (pv 8) (pa_cons (pe_tup (pa_cons pe_str (pa_cons (pe_call C_find_way.ok hr1 (by rfl) C_find_way.mg C_find_way.kp C_find_way.b .nil pass0 (pa_cons (pv 5) (pa_cons (pv 8) (pa_cons (pv 8) pa_nil)))) pa_nil))) pa_nil))))))) (pss_one (ps_ret pe_bl)) pss_nil))))))))
      (pss_one (ps_ret pe_bl))), ?_⟩
    have hN := turns4_le (ns.length : Int)
    refine q_forR1 (n := turns4 (ns.length : Int)) (ea_cons (ev_is (ev_max2 ev_c (ev_min2 ev_c (ev_lenL (ev_var rfl) hS))) (by rw [List.length_map]; rfl)) ea_nil) (by omega)
      (fun _ σ' H' => ∃ y1 y2 y3 y4 y5 y6 y7 y8 y9 y10, σ' = [some (.ref a), y1, y2, y3, y4, y5, y6, y7, y8, y9, y10] ∧ Ex H H')
      (fun H1 e1 => ⟨none, none, none, none, none, none, none, none, none, none, rfl, e1⟩) ?_ ?_
    · rintro i σ' H1 hi ⟨y1, y2, y3, y4, y5, y6, y7, y8, y9, y10, rfl, s1⟩
      refine ⟨_, rfl, _, rfl, a, ns, i, rfl, ex_l s1 hS, by omega, fun b H2 nb hB sB => ?_⟩
      refine q_forR1 (n := 2) (ea_cons ev_c ea_nil) (by decide)
        (fun j σ' H' => ∃ y3 y4 y5 y6 y7 y8 y9 y10, σ' = [some (.ref a), some (.int (i : Int)), some (.ref b), y3, y4, y5, y6, y7, y8, y9, y10] ∧ Ex H1 H' ∧ BagAt H' b (1000 * j) ∧
          (1 ≤ j → ∃ t x pf pm fs ms, y4 = some (.ref t) ∧ y5 = some (.ref x) ∧ RuleIn H' t pf pm fs ms ∧ TabAt A.C H' x fs ms ∧ RuleOk fs ms ∧ fs.length ≤ 7))
        (fun H3 e3 => ⟨y3, y4, y5, y6, y7, y8, y9, y10, rfl, sB.trans e3, hB.same e3, fun h => absurd h (by omega)⟩) ?_ ?_
      · rintro j σ' H3 hj ⟨y3, y4, y5, y6, y7, y8, y9, y10, rfl, s3, hb3, _⟩
        have hj6 : j < 2 := by omega
        refine ⟨_, rfl, b, 1000 * j, rfl, hb3, by omega, fun t pf pm fs ms H4 ro hk nt npf npm ht hf hm hb4 but4 => ?_⟩
        have hf7 := few_folds ro.fn hk
        refine q_asgT1 (em_make (fs := fs) (ms := ms) (EvDK.of (ev_ixT (i := 0) (ev_var rfl) ev_c ht rfl) hf) (EvDK.of (ev_ixT (i := 1) (ev_var rfl) ev_c ht rfl) hm) ro) fun x H5 nx e5 ht5 => ?_
        have hb5 := hb4.same e5
        have hr5 : RuleIn H5 t pf pm fs ms := ⟨e5 _ _ ht, e5 _ _ hf, e5 _ _ hm⟩
        have b35 : But1 b H3 H5 := but4.tr (But1.of e5)
        refine ⟨_, rfl, b, 5, _, rfl, hb5, by omega, by decide, by decide, fun l1 H6 wd1 hb6 but6 => ?_⟩
        have ht6 := ht5.but hb5 but6
        have hr6 := hr5.but hb5 but6
        refine ⟨_, rfl, _, rfl, _, rfl, b, t, pf, pm, fs, ms, l1, _, rfl, hr6, ro, hf7, hb6, by omega, wd1.up (by decide), fun l2 H7 wd2 hb7 but7 => ?_⟩
        have ht7 := ht6.but hb6 but7
        have hr7 := hr6.but hb6 but7
        refine ⟨_, rfl, _, rfl, _, rfl, b, t, pf, pm, fs, ms, l1, _, rfl, hr7, ro, hf7, hb7, by omega, wd1.up (by decide), fun l3 H8 wd3 hb8 but8 => ?_⟩
        have ht8 := ht7.but hb7 but8
        have hr8 := hr7.but hb7 but8
        refine ⟨_, rfl, b, 5, _, rfl, hb8, by omega, by decide, by decide, fun l4 H9 wd4 hb9 but9 => ?_⟩
        have ht9 := ht8.but hb8 but9
        have hr9 := hr8.but hb8 but9
        have b39 : But1 b H3 H9 := (((b35.tr but6).tr but7).tr but8).tr but9
        have s9 : Ex H1 H9 := fun c u e => b39 c u (fun z => by rw [z, nb] at e; cases e) (s3 c u e)
        refine ⟨by show 3 ≤ sizeLine; rw [sizeLine_eq]; decide, fun tp ntp => ⟨tp, rfl, ⟨_, st_of upd_same⟩, ?_⟩⟩
        have e10 := Ex.new (o := .tup [.str (stL l2), .str (stL l3), .str (stL l4)]) ntp
        have htp : (upd H9 tp (.tup [.str (stL l2), .str (stL l3), .str (stL l4)])) tp = some (.tup [.str (stL l2), .str (stL l3), .str (stL l4)]) := upd_same
        generalize upd H9 tp (.tup [.str (stL l2), .str (stL l3), .str (stL l4)]) = H10 at *
        have up := wd1.up (show 5 ≤ 12 by decide)
        refine for_it walk_tup (fun n σ' G => ∃ y7, σ' = [some (.ref a), some (.int (i : Int)), some (.ref b), some (.int (j : Int)), some (.ref t), some (.ref x), some (.str (stL l1)), y7, y8, y9, y10] ∧ Ex H10 G) ⟨_, rfl, Ex.refl _⟩ (fun n σ' G _ ⟨_, _, e⟩ => st_of (e _ _ htp)) ?_ ?_
        · rintro n v σ' G G' hn ⟨y7, rfl, eG⟩ ⟨rfl, hv⟩
          obtain ⟨z, rfl, wz⟩ : ∃ z, v = V.str (stL z) ∧ Wd z 12 := by
            match n, hv with
            | 0, hv => cases hv; exact ⟨_, rfl, wd2.up (by decide)⟩
            | 1, hv => cases hv; exact ⟨_, rfl, wd3.up (by decide)⟩
            | 2, hv => cases hv; exact ⟨_, rfl, wd4.up (by decide)⟩
            | n + 3, hv => cases hv
          refine s_when (b := false) (et_is (et_not (et_B (ev_call (ea_cons (ev_var rfl) (ea_cons (ev_var rfl) (ea_cons (ev_var rfl) (ea_cons (ev_var rfl) ea_nil)))) (sp_right (hr9.on (e10.trans eG)) (ht9.same (e10.trans eG)) ro hf7 up wz)))) rfl) (fun z => nomatch z) fun _ G2 g2 => ⟨_, rfl, eG.trans g2⟩
        · rintro σ' G ⟨y7, rfl, eG⟩
          have htG := ht9.same (e10.trans eG)
          have hrG := hr9.on (e10.trans eG)
          refine s_when (b := false) (et_is (et_or (et_not (et_B (ev_call (ea_cons (ev_var rfl) (ea_cons (ev_var rfl) (ea_cons (ev_is (ev_cutTo (i := ((1 : Nat) : Int)) (ev_var rfl) ev_c (by rw [stL_len]; have := wd1.le; omega)) (by rw [cut_to])) (ea_cons (ev_var rfl) ea_nil)))) (sp_right hrG htG ro hf7 up.one up)))) fun _ =>
            et_not (et_B (ev_call (ea_cons (ev_var rfl) (ea_cons (ev_var rfl) (ea_cons (ev_var rfl) (ea_cons (ev_var rfl) ea_nil)))) (sp_right hrG htG ro hf7 up up)))) rfl) (fun z => nomatch z) fun _ G2 g2 => ?_
          exact ⟨_, _, _, _, _, _, _, _, rfl, (s9.trans e10).trans (eG.trans g2), (((hb9.same e10).same eG).same g2).up (by omega), fun _ => ⟨t, x, pf, pm, fs, ms, rfl, rfl, hrG.on g2, htG.same g2, ro, hf7⟩⟩
      · rintro σ' H3 ⟨y3, y4, y5, y6, y7, y8, y9, y10, rfl, s3, hb3, hh⟩
        obtain ⟨t, x, pf, pm, fs, ms, rfl, rfl, hr3, ht3, ro, hf7⟩ := hh (by decide)
        have hb3 : BagAt H3 b 2000 := hb3
        refine ⟨_, rfl, b, 12, _, rfl, hb3, by omega, by decide, by decide, fun l1 H4 wd1 hb4 but4 => ⟨_, rfl, b, 12, _, rfl, hb4, by omega, by decide, by decide, fun l2 H5 wd2 hb5 but5 => ⟨_, _, rfl, ?_⟩⟩⟩
        have ht5 := (ht3.but hb3 but4).but hb4 but5
        have hr5 := (hr3.but hb3 but4).but hb4 but5
        have b35 := but4.tr but5
        have s5 : Ex H1 H5 := fun c u e => b35 c u (fun z => by rw [z, nb] at e; cases e) (s3 c u e)
        obtain ⟨d1, wo1, wy1⟩ := way_of ro wd1
        obtain ⟨d2, wo2, wy2⟩ := way_of ro wd2
        have W := Way.met ro wy1 wy1 rfl
        refine ⟨_, rfl, _, rfl, _, rfl, x, fs, ms, l1, l2, d1, _, d2, _, rfl, ht5, ro, wo1, wo2, ?_⟩
        by_cases ek : keyL fs ms l1 = keyL fs ms l2
        · refine .inl ⟨ek, fun p H6 np e6 hp => ?_⟩
          have hr6 := hr5.on e6
          have ht6 := ht5.same e6
          refine q_when (b := false) (et_is (et_test (ev_op (ev_isN (ev_var rfl)) (ev_neS (ev_call (ea_cons (ev_var rfl) (ea_cons (ev_var rfl) ea_nil)) (sp_keyW hr6 ro (wd1.up (by decide)))) (ev_call (ea_cons (ev_var rfl) (ea_cons (ev_var rfl) ea_nil)) (sp_keyW hr6 ro (wd2.up (by decide))))) (rv_ne rfl))) (by rw [ek, decide_eq_true (Eq.refl (stL (keyL fs ms l2))), decide_eq_false (show ¬ V.ref p = V.non from by intro z; cases z)]; simp)) (fun z => nomatch z) fun _ H7 e7 => ?_
          refine s_when (b := false) (et_is (et_not (et_B (ev_holdsR (ev_var rfl) (ht6.same e7) ro (ev_var rfl) (ev_var rfl) (EvLR.call (ea_cons (ev_var rfl) (ea_cons (ev_var rfl) (ea_cons (ev_var rfl) ea_nil))) (ht6.same e7) ro wo1 wo1 rfl) (W.shown (by decide) (by decide)) W.ch))) rfl) (fun z => nomatch z) fun _ H8 e8 => ?_
          exact ⟨_, _, _, _, _, _, _, _, _, _, rfl, ((s1.trans s5).trans e6).trans (e7.trans e8)⟩
        · refine .inr ⟨ek, fun H6 e6 => ?_⟩
          have hr6 := hr5.on e6
          have ht6 := ht5.same e6
          refine q_when (b := false) (et_is (et_test (ev_op (ev_isN (ev_var rfl)) (ev_neS (ev_call (ea_cons (ev_var rfl) (ea_cons (ev_var rfl) ea_nil)) (sp_keyW hr6 ro (wd1.up (by decide)))) (ev_call (ea_cons (ev_var rfl) (ea_cons (ev_var rfl) ea_nil)) (sp_keyW hr6 ro (wd2.up (by decide))))) (rv_ne rfl))) (by rw [decide_eq_true (Eq.refl V.non), decide_eq_false (show ¬ stL (keyL fs ms l1) = stL (keyL fs ms l2) from fun e => ek (stL_inj e))]; simp)) (fun z => nomatch z) fun _ H7 e7 => ?_
          refine s_when (b := false) (et_is (et_not (et_B (ev_holdsR (ev_var rfl) (ht6.same e7) ro (ev_var rfl) (ev_var rfl) (EvLR.call (ea_cons (ev_var rfl) (ea_cons (ev_var rfl) (ea_cons (ev_var rfl) ea_nil))) (ht6.same e7) ro wo1 wo1 rfl) (W.shown (by decide) (by decide)) W.ch))) rfl) (fun z => nomatch z) fun _ H8 e8 => ?_
          exact ⟨_, _, _, _, _, _, _, _, _, _, rfl, ((s1.trans s5).trans e6).trans (e7.trans e8)⟩
    · rintro σ' H1 ⟨y1, y2, y3, y4, y5, y6, y7, y8, y9, y10, rfl, s1⟩
      exact s_ret ev_c fun H2 _ => q H2
end
end Nm


set_option Elab.async false
set_option linter.all false
set_option maxRecDepth 100000
set_option maxHeartbeats 4000000
namespace Nm
open PySem PySem.Spec PyProof.Rows L2 Evl
/-- an error of the class at S is what «except S» names -/
theorem exm_self {K : Fg} {S : Addr} (h1 : PySem.W.subIn K (.ref S) (.type "BaseException") = some true) (h2 : PySem.W.isClsIn K S = true) (h3 : PySem.W.typeIn K (.ref S) = some (.type "type")) (h4 : PySem.W.subIn K (.ref S) (.ref S) = some true) :
    PySem.W.exmOne K (.ref S) (.ref S) = some true := by
  have e1 : (PySem.W.subIn K (.ref S) (.type "BaseException") == some true) = true := by rw [h1] <;> rfl
  have e2 : ((PySem.W.clsIn K S).isSome && PySem.W.typeIn K (.ref S) == some (.type "type")) = true := by
    have h2' : (PySem.W.clsIn K S).isSome = true := h2
    rw [h2', h3] <;> rfl
  show (if (PySem.W.subIn K (.ref S) (.type "BaseException") == some true) = true then (if ((PySem.W.clsIn K S).isSome && PySem.W.typeIn K (.ref S) == some (.type "type")) = true then PySem.W.subIn K (.ref S) (.ref S) else none) else none) = some true
  rw [if_pos e1, if_pos e2]
  exact h4
theorem all_mk {l : PySem.W.OpenLaw} {w : World} {K : Fg} {h : Heap} {mg : Str → Option Value} {fa : Addr} (X : K.In h) (G : h.Ns mainGlobals mg) (hfa : mg "law" = some (.ref fa))
    {C CW MC pf pm : Addr} {rsf rsm : List Value} {ddM : Option Addr} {tM1 tM2 tM3 : Tok} {nM : Nat} {slM : Array (Option Value)}
    {nm q : Str} {NW : Addr} {bs : List Value} {sn : List Str} {sub : List Value} {ab : Bool} {col : Option Bool} {dd : Option Addr} {m0 m1 m2 m3 m5 : Option Value}
    (nC : PySem.W.nsIn K mainGlobals "Table" = some (some (.ref C)))
    (nW : PySem.W.nsIn K mainGlobals "NoWord" = some (some (.ref CW)))
    (pF : PySem.W.findIn K (.ref C) "folds" = some (some (.ref pf)))
    (pM : PySem.W.findIn K (.ref C) "marks" = some (some (.ref pm)))
    {f_is_sign : Addr} {od_0 an_0 : Option Addr} {sl_0 : Array (Option Value)} {oc_0 kV_0 dc_0 pm_0 cd_0 ct_0 : Value}
    (a_is_sign : PySem.W.nsIn K mainGlobals "is_sign" = some (some (.ref f_is_sign))) (l_is_sign : K.lookup f_is_sign = some ⟨oc_0, od_0, .func (PySem.W.fnOf "is_sign" "is_sign" (defArgs s_is_sign) (defBody s_is_sign) (defScope s_is_sign) .none kV_0 dc_0 pm_0 an_0 cd_0 ct_0), sl_0⟩)
    (c_is_sign : PySem.W.codeIn K cd_0 "is_sign" = true) (k_is_sign : PySem.W.keepIn K (.ref f_is_sign) = true)
    {f_is_word : Addr} {od_1 an_1 : Option Addr} {sl_1 : Array (Option Value)} {oc_1 kV_1 dc_1 pm_1 cd_1 ct_1 : Value}
    (a_is_word : PySem.W.nsIn K mainGlobals "is_word" = some (some (.ref f_is_word))) (l_is_word : K.lookup f_is_word = some ⟨oc_1, od_1, .func (PySem.W.fnOf "is_word" "is_word" (defArgs s_is_word) (defBody s_is_word) (defScope s_is_word) .none kV_1 dc_1 pm_1 an_1 cd_1 ct_1), sl_1⟩)
    (c_is_word : PySem.W.codeIn K cd_1 "is_word" = true) (k_is_word : PySem.W.keepIn K (.ref f_is_word) = true)
    {f__is_word_up_to : Addr} {od_2 an_2 : Option Addr} {sl_2 : Array (Option Value)} {oc_2 kV_2 dc_2 pm_2 cd_2 ct_2 : Value}
    (a__is_word_up_to : PySem.W.nsIn K mainGlobals "_is_word_up_to" = some (some (.ref f__is_word_up_to))) (l__is_word_up_to : K.lookup f__is_word_up_to = some ⟨oc_2, od_2, .func (PySem.W.fnOf "_is_word_up_to" "_is_word_up_to" (defArgs s__is_word_up_to) (defBody s__is_word_up_to) (defScope s__is_word_up_to) .none kV_2 dc_2 pm_2 an_2 cd_2 ct_2), sl_2⟩)
    (c__is_word_up_to : PySem.W.codeIn K cd_2 "_is_word_up_to" = true) (k__is_word_up_to : PySem.W.keepIn K (.ref f__is_word_up_to) = true)
    {f__is_fold_word : Addr} {od_3 an_3 : Option Addr} {sl_3 : Array (Option Value)} {oc_3 kV_3 dc_3 pm_3 cd_3 ct_3 : Value}
    (a__is_fold_word : PySem.W.nsIn K mainGlobals "_is_fold_word" = some (some (.ref f__is_fold_word))) (l__is_fold_word : K.lookup f__is_fold_word = some ⟨oc_3, od_3, .func (PySem.W.fnOf "_is_fold_word" "_is_fold_word" (defArgs s__is_fold_word) (defBody s__is_fold_word) (defScope s__is_fold_word) .none kV_3 dc_3 pm_3 an_3 cd_3 ct_3), sl_3⟩)
    (c__is_fold_word : PySem.W.codeIn K cd_3 "_is_fold_word" = true) (k__is_fold_word : PySem.W.keepIn K (.ref f__is_fold_word) = true)
    {f_is_number : Addr} {od_4 an_4 : Option Addr} {sl_4 : Array (Option Value)} {oc_4 kV_4 dc_4 pm_4 cd_4 ct_4 : Value}
    (a_is_number : PySem.W.nsIn K mainGlobals "is_number" = some (some (.ref f_is_number))) (l_is_number : K.lookup f_is_number = some ⟨oc_4, od_4, .func (PySem.W.fnOf "is_number" "is_number" (defArgs s_is_number) (defBody s_is_number) (defScope s_is_number) .none kV_4 dc_4 pm_4 an_4 cd_4 ct_4), sl_4⟩)
    (c_is_number : PySem.W.codeIn K cd_4 "is_number" = true) (k_is_number : PySem.W.keepIn K (.ref f_is_number) = true)
    {f__is_mark_class : Addr} {od_5 an_5 : Option Addr} {sl_5 : Array (Option Value)} {oc_5 kV_5 dc_5 pm_5 cd_5 ct_5 : Value}
    (a__is_mark_class : PySem.W.nsIn K mainGlobals "_is_mark_class" = some (some (.ref f__is_mark_class))) (l__is_mark_class : K.lookup f__is_mark_class = some ⟨oc_5, od_5, .func (PySem.W.fnOf "_is_mark_class" "_is_mark_class" (defArgs s__is_mark_class) (defBody s__is_mark_class) (defScope s__is_mark_class) .none kV_5 dc_5 pm_5 an_5 cd_5 ct_5), sl_5⟩)
    (c__is_mark_class : PySem.W.codeIn K cd_5 "_is_mark_class" = true) (k__is_mark_class : PySem.W.keepIn K (.ref f__is_mark_class) = true)
    {f__check_folds : Addr} {od_6 an_6 : Option Addr} {sl_6 : Array (Option Value)} {oc_6 kV_6 dc_6 pm_6 cd_6 ct_6 : Value}
    (a__check_folds : PySem.W.nsIn K mainGlobals "_check_folds" = some (some (.ref f__check_folds))) (l__check_folds : K.lookup f__check_folds = some ⟨oc_6, od_6, .func (PySem.W.fnOf "_check_folds" "_check_folds" (defArgs s__check_folds) (defBody s__check_folds) (defScope s__check_folds) .none kV_6 dc_6 pm_6 an_6 cd_6 ct_6), sl_6⟩)
    (c__check_folds : PySem.W.codeIn K cd_6 "_check_folds" = true) (k__check_folds : PySem.W.keepIn K (.ref f__check_folds) = true)
    {f__check_marks : Addr} {od_7 an_7 : Option Addr} {sl_7 : Array (Option Value)} {oc_7 kV_7 dc_7 pm_7 cd_7 ct_7 : Value}
    (a__check_marks : PySem.W.nsIn K mainGlobals "_check_marks" = some (some (.ref f__check_marks))) (l__check_marks : K.lookup f__check_marks = some ⟨oc_7, od_7, .func (PySem.W.fnOf "_check_marks" "_check_marks" (defArgs s__check_marks) (defBody s__check_marks) (defScope s__check_marks) .none kV_7 dc_7 pm_7 an_7 cd_7 ct_7), sl_7⟩)
    (c__check_marks : PySem.W.codeIn K cd_7 "_check_marks" = true) (k__check_marks : PySem.W.keepIn K (.ref f__check_marks) = true)
    {f__check_sizes : Addr} {od_8 an_8 : Option Addr} {sl_8 : Array (Option Value)} {oc_8 kV_8 dc_8 pm_8 cd_8 ct_8 : Value}
    (a__check_sizes : PySem.W.nsIn K mainGlobals "_check_sizes" = some (some (.ref f__check_sizes))) (l__check_sizes : K.lookup f__check_sizes = some ⟨oc_8, od_8, .func (PySem.W.fnOf "_check_sizes" "_check_sizes" (defArgs s__check_sizes) (defBody s__check_sizes) (defScope s__check_sizes) .none kV_8 dc_8 pm_8 an_8 cd_8 ct_8), sl_8⟩)
    (c__check_sizes : PySem.W.codeIn K cd_8 "_check_sizes" = true) (k__check_sizes : PySem.W.keepIn K (.ref f__check_sizes) = true)
    {f__with_folds : Addr} {od_9 an_9 : Option Addr} {sl_9 : Array (Option Value)} {oc_9 kV_9 dc_9 pm_9 cd_9 ct_9 : Value}
    (a__with_folds : PySem.W.nsIn K mainGlobals "_with_folds" = some (some (.ref f__with_folds))) (l__with_folds : K.lookup f__with_folds = some ⟨oc_9, od_9, .func (PySem.W.fnOf "_with_folds" "_with_folds" (defArgs s__with_folds) (defBody s__with_folds) (defScope s__with_folds) .none kV_9 dc_9 pm_9 an_9 cd_9 ct_9), sl_9⟩)
    (c__with_folds : PySem.W.codeIn K cd_9 "_with_folds" = true) (k__with_folds : PySem.W.keepIn K (.ref f__with_folds) = true)
    {f__with_marks_in_order : Addr} {od_10 an_10 : Option Addr} {sl_10 : Array (Option Value)} {oc_10 kV_10 dc_10 pm_10 cd_10 ct_10 : Value}
    (a__with_marks_in_order : PySem.W.nsIn K mainGlobals "_with_marks_in_order" = some (some (.ref f__with_marks_in_order))) (l__with_marks_in_order : K.lookup f__with_marks_in_order = some ⟨oc_10, od_10, .func (PySem.W.fnOf "_with_marks_in_order" "_with_marks_in_order" (defArgs s__with_marks_in_order) (defBody s__with_marks_in_order) (defScope s__with_marks_in_order) .none kV_10 dc_10 pm_10 an_10 cd_10 ct_10), sl_10⟩)
    (c__with_marks_in_order : PySem.W.codeIn K cd_10 "_with_marks_in_order" = true) (k__with_marks_in_order : PySem.W.keepIn K (.ref f__with_marks_in_order) = true)
    {f__run_in_order : Addr} {od_11 an_11 : Option Addr} {sl_11 : Array (Option Value)} {oc_11 kV_11 dc_11 pm_11 cd_11 ct_11 : Value}
    (a__run_in_order : PySem.W.nsIn K mainGlobals "_run_in_order" = some (some (.ref f__run_in_order))) (l__run_in_order : K.lookup f__run_in_order = some ⟨oc_11, od_11, .func (PySem.W.fnOf "_run_in_order" "_run_in_order" (defArgs s__run_in_order) (defBody s__run_in_order) (defScope s__run_in_order) .none kV_11 dc_11 pm_11 an_11 cd_11 ct_11), sl_11⟩)
    (c__run_in_order : PySem.W.codeIn K cd_11 "_run_in_order" = true) (k__run_in_order : PySem.W.keepIn K (.ref f__run_in_order) = true)
    {f_key_of : Addr} {od_12 an_12 : Option Addr} {sl_12 : Array (Option Value)} {oc_12 kV_12 dc_12 pm_12 cd_12 ct_12 : Value}
    (a_key_of : PySem.W.nsIn K mainGlobals "key_of" = some (some (.ref f_key_of))) (l_key_of : K.lookup f_key_of = some ⟨oc_12, od_12, .func (PySem.W.fnOf "key_of" "key_of" (defArgs s_key_of) (defBody s_key_of) (defScope s_key_of) .none kV_12 dc_12 pm_12 an_12 cd_12 ct_12), sl_12⟩)
    (c_key_of : PySem.W.codeIn K cd_12 "key_of" = true) (k_key_of : PySem.W.keepIn K (.ref f_key_of) = true)
    {f_exchanges : Addr} {od_13 an_13 : Option Addr} {sl_13 : Array (Option Value)} {oc_13 kV_13 dc_13 pm_13 cd_13 ct_13 : Value}
    (a_exchanges : PySem.W.nsIn K mainGlobals "exchanges" = some (some (.ref f_exchanges))) (l_exchanges : K.lookup f_exchanges = some ⟨oc_13, od_13, .func (PySem.W.fnOf "exchanges" "exchanges" (defArgs s_exchanges) (defBody s_exchanges) (defScope s_exchanges) .none kV_13 dc_13 pm_13 an_13 cd_13 ct_13), sl_13⟩)
    (c_exchanges : PySem.W.codeIn K cd_13 "exchanges" = true) (k_exchanges : PySem.W.keepIn K (.ref f_exchanges) = true)
    {f__put : Addr} {od_14 an_14 : Option Addr} {sl_14 : Array (Option Value)} {oc_14 kV_14 dc_14 pm_14 cd_14 ct_14 : Value}
    (a__put : PySem.W.nsIn K mainGlobals "_put" = some (some (.ref f__put))) (l__put : K.lookup f__put = some ⟨oc_14, od_14, .func (PySem.W.fnOf "_put" "_put" (defArgs s__put) (defBody s__put) (defScope s__put) .none kV_14 dc_14 pm_14 an_14 cd_14 ct_14), sl_14⟩)
    (c__put : PySem.W.codeIn K cd_14 "_put" = true) (k__put : PySem.W.keepIn K (.ref f__put) = true)
    {f__with_one_fold : Addr} {od_15 an_15 : Option Addr} {sl_15 : Array (Option Value)} {oc_15 kV_15 dc_15 pm_15 cd_15 ct_15 : Value}
    (a__with_one_fold : PySem.W.nsIn K mainGlobals "_with_one_fold" = some (some (.ref f__with_one_fold))) (l__with_one_fold : K.lookup f__with_one_fold = some ⟨oc_15, od_15, .func (PySem.W.fnOf "_with_one_fold" "_with_one_fold" (defArgs s__with_one_fold) (defBody s__with_one_fold) (defScope s__with_one_fold) .none kV_15 dc_15 pm_15 an_15 cd_15 ct_15), sl_15⟩)
    (c__with_one_fold : PySem.W.codeIn K cd_15 "_with_one_fold" = true) (k__with_one_fold : PySem.W.keepIn K (.ref f__with_one_fold) = true)
    {f__with_one_fold_back : Addr} {od_16 an_16 : Option Addr} {sl_16 : Array (Option Value)} {oc_16 kV_16 dc_16 pm_16 cd_16 ct_16 : Value}
    (a__with_one_fold_back : PySem.W.nsIn K mainGlobals "_with_one_fold_back" = some (some (.ref f__with_one_fold_back))) (l__with_one_fold_back : K.lookup f__with_one_fold_back = some ⟨oc_16, od_16, .func (PySem.W.fnOf "_with_one_fold_back" "_with_one_fold_back" (defArgs s__with_one_fold_back) (defBody s__with_one_fold_back) (defScope s__with_one_fold_back) .none kV_16 dc_16 pm_16 an_16 cd_16 ct_16), sl_16⟩)
    (c__with_one_fold_back : PySem.W.codeIn K cd_16 "_with_one_fold_back" = true) (k__with_one_fold_back : PySem.W.keepIn K (.ref f__with_one_fold_back) = true)
    {f__with_one_swap : Addr} {od_17 an_17 : Option Addr} {sl_17 : Array (Option Value)} {oc_17 kV_17 dc_17 pm_17 cd_17 ct_17 : Value}
    (a__with_one_swap : PySem.W.nsIn K mainGlobals "_with_one_swap" = some (some (.ref f__with_one_swap))) (l__with_one_swap : K.lookup f__with_one_swap = some ⟨oc_17, od_17, .func (PySem.W.fnOf "_with_one_swap" "_with_one_swap" (defArgs s__with_one_swap) (defBody s__with_one_swap) (defScope s__with_one_swap) .none kV_17 dc_17 pm_17 an_17 cd_17 ct_17), sl_17⟩)
    (c__with_one_swap : PySem.W.codeIn K cd_17 "_with_one_swap" = true) (k__with_one_swap : PySem.W.keepIn K (.ref f__with_one_swap) = true)
    {f_may_swap : Addr} {od_18 an_18 : Option Addr} {sl_18 : Array (Option Value)} {oc_18 kV_18 dc_18 pm_18 cd_18 ct_18 : Value}
    (a_may_swap : PySem.W.nsIn K mainGlobals "may_swap" = some (some (.ref f_may_swap))) (l_may_swap : K.lookup f_may_swap = some ⟨oc_18, od_18, .func (PySem.W.fnOf "may_swap" "may_swap" (defArgs s_may_swap) (defBody s_may_swap) (defScope s_may_swap) .none kV_18 dc_18 pm_18 an_18 cd_18 ct_18), sl_18⟩)
    (c_may_swap : PySem.W.codeIn K cd_18 "may_swap" = true) (k_may_swap : PySem.W.keepIn K (.ref f_may_swap) = true)
    {f__swapped : Addr} {od_19 an_19 : Option Addr} {sl_19 : Array (Option Value)} {oc_19 kV_19 dc_19 pm_19 cd_19 ct_19 : Value}
    (a__swapped : PySem.W.nsIn K mainGlobals "_swapped" = some (some (.ref f__swapped))) (l__swapped : K.lookup f__swapped = some ⟨oc_19, od_19, .func (PySem.W.fnOf "_swapped" "_swapped" (defArgs s__swapped) (defBody s__swapped) (defScope s__swapped) .none kV_19 dc_19 pm_19 an_19 cd_19 ct_19), sl_19⟩)
    (c__swapped : PySem.W.codeIn K cd_19 "_swapped" = true) (k__swapped : PySem.W.keepIn K (.ref f__swapped) = true)
    {f_find_way : Addr} {od_20 an_20 : Option Addr} {sl_20 : Array (Option Value)} {oc_20 kV_20 dc_20 pm_20 cd_20 ct_20 : Value}
    (a_find_way : PySem.W.nsIn K mainGlobals "find_way" = some (some (.ref f_find_way))) (l_find_way : K.lookup f_find_way = some ⟨oc_20, od_20, .func (PySem.W.fnOf "find_way" "find_way" (defArgs s_find_way) (defBody s_find_way) (defScope s_find_way) .none kV_20 dc_20 pm_20 an_20 cd_20 ct_20), sl_20⟩)
    (c_find_way : PySem.W.codeIn K cd_20 "find_way" = true) (k_find_way : PySem.W.keepIn K (.ref f_find_way) = true)
    {f__way_to_key : Addr} {od_21 an_21 : Option Addr} {sl_21 : Array (Option Value)} {oc_21 kV_21 dc_21 pm_21 cd_21 ct_21 : Value}
    (a__way_to_key : PySem.W.nsIn K mainGlobals "_way_to_key" = some (some (.ref f__way_to_key))) (l__way_to_key : K.lookup f__way_to_key = some ⟨oc_21, od_21, .func (PySem.W.fnOf "_way_to_key" "_way_to_key" (defArgs s__way_to_key) (defBody s__way_to_key) (defScope s__way_to_key) .none kV_21 dc_21 pm_21 an_21 cd_21 ct_21), sl_21⟩)
    (c__way_to_key : PySem.W.codeIn K cd_21 "_way_to_key" = true) (k__way_to_key : PySem.W.keepIn K (.ref f__way_to_key) = true)
    {f__nearer_to_key : Addr} {od_22 an_22 : Option Addr} {sl_22 : Array (Option Value)} {oc_22 kV_22 dc_22 pm_22 cd_22 ct_22 : Value}
    (a__nearer_to_key : PySem.W.nsIn K mainGlobals "_nearer_to_key" = some (some (.ref f__nearer_to_key))) (l__nearer_to_key : K.lookup f__nearer_to_key = some ⟨oc_22, od_22, .func (PySem.W.fnOf "_nearer_to_key" "_nearer_to_key" (defArgs s__nearer_to_key) (defBody s__nearer_to_key) (defScope s__nearer_to_key) .none kV_22 dc_22 pm_22 an_22 cd_22 ct_22), sl_22⟩)
    (c__nearer_to_key : PySem.W.codeIn K cd_22 "_nearer_to_key" = true) (k__nearer_to_key : PySem.W.keepIn K (.ref f__nearer_to_key) = true)
    {f_paper : Addr} {od_23 an_23 : Option Addr} {sl_23 : Array (Option Value)} {oc_23 kV_23 dc_23 pm_23 cd_23 ct_23 : Value}
    (a_paper : PySem.W.nsIn K mainGlobals "paper" = some (some (.ref f_paper))) (l_paper : K.lookup f_paper = some ⟨oc_23, od_23, .func (PySem.W.fnOf "paper" "paper" (defArgs s_paper) (defBody s_paper) (defScope s_paper) .none kV_23 dc_23 pm_23 an_23 cd_23 ct_23), sl_23⟩)
    (c_paper : PySem.W.codeIn K cd_23 "paper" = true) (k_paper : PySem.W.keepIn K (.ref f_paper) = true)
    {f_holds : Addr} {od_24 an_24 : Option Addr} {sl_24 : Array (Option Value)} {oc_24 kV_24 dc_24 pm_24 cd_24 ct_24 : Value}
    (a_holds : PySem.W.nsIn K mainGlobals "holds" = some (some (.ref f_holds))) (l_holds : K.lookup f_holds = some ⟨oc_24, od_24, .func (PySem.W.fnOf "holds" "holds" (defArgs s_holds) (defBody s_holds) (defScope s_holds) .none kV_24 dc_24 pm_24 an_24 cd_24 ct_24), sl_24⟩)
    (c_holds : PySem.W.codeIn K cd_24 "holds" = true) (k_holds : PySem.W.keepIn K (.ref f_holds) = true)
    {f__first_difference : Addr} {od_25 an_25 : Option Addr} {sl_25 : Array (Option Value)} {oc_25 kV_25 dc_25 pm_25 cd_25 ct_25 : Value}
    (a__first_difference : PySem.W.nsIn K mainGlobals "_first_difference" = some (some (.ref f__first_difference))) (l__first_difference : K.lookup f__first_difference = some ⟨oc_25, od_25, .func (PySem.W.fnOf "_first_difference" "_first_difference" (defArgs s__first_difference) (defBody s__first_difference) (defScope s__first_difference) .none kV_25 dc_25 pm_25 an_25 cd_25 ct_25), sl_25⟩)
    (c__first_difference : PySem.W.codeIn K cd_25 "_first_difference" = true) (k__first_difference : PySem.W.keepIn K (.ref f__first_difference) = true)
    {f__is_way : Addr} {od_26 an_26 : Option Addr} {sl_26 : Array (Option Value)} {oc_26 kV_26 dc_26 pm_26 cd_26 ct_26 : Value}
    (a__is_way : PySem.W.nsIn K mainGlobals "_is_way" = some (some (.ref f__is_way))) (l__is_way : K.lookup f__is_way = some ⟨oc_26, od_26, .func (PySem.W.fnOf "_is_way" "_is_way" (defArgs s__is_way) (defBody s__is_way) (defScope s__is_way) .none kV_26 dc_26 pm_26 an_26 cd_26 ct_26), sl_26⟩)
    (c__is_way : PySem.W.codeIn K cd_26 "_is_way" = true) (k__is_way : PySem.W.keepIn K (.ref f__is_way) = true)
    {f__law_bag : Addr} {od_27 an_27 : Option Addr} {sl_27 : Array (Option Value)} {oc_27 kV_27 dc_27 pm_27 cd_27 ct_27 : Value}
    (a__law_bag : PySem.W.nsIn K mainGlobals "_law_bag" = some (some (.ref f__law_bag))) (l__law_bag : K.lookup f__law_bag = some ⟨oc_27, od_27, .func (PySem.W.fnOf "_law_bag" "_law_bag" (defArgs s__law_bag) (defBody s__law_bag) (defScope s__law_bag) .none kV_27 dc_27 pm_27 an_27 cd_27 ct_27), sl_27⟩)
    (c__law_bag : PySem.W.codeIn K cd_27 "_law_bag" = true) (k__law_bag : PySem.W.keepIn K (.ref f__law_bag) = true)
    {f__law_take : Addr} {od_28 an_28 : Option Addr} {sl_28 : Array (Option Value)} {oc_28 kV_28 dc_28 pm_28 cd_28 ct_28 : Value}
    (a__law_take : PySem.W.nsIn K mainGlobals "_law_take" = some (some (.ref f__law_take))) (l__law_take : K.lookup f__law_take = some ⟨oc_28, od_28, .func (PySem.W.fnOf "_law_take" "_law_take" (defArgs s__law_take) (defBody s__law_take) (defScope s__law_take) .none kV_28 dc_28 pm_28 an_28 cd_28 ct_28), sl_28⟩)
    (c__law_take : PySem.W.codeIn K cd_28 "_law_take" = true) (k__law_take : PySem.W.keepIn K (.ref f__law_take) = true)
    {f__law_rule : Addr} {od_29 an_29 : Option Addr} {sl_29 : Array (Option Value)} {oc_29 kV_29 dc_29 pm_29 cd_29 ct_29 : Value}
    (a__law_rule : PySem.W.nsIn K mainGlobals "_law_rule" = some (some (.ref f__law_rule))) (l__law_rule : K.lookup f__law_rule = some ⟨oc_29, od_29, .func (PySem.W.fnOf "_law_rule" "_law_rule" (defArgs s__law_rule) (defBody s__law_rule) (defScope s__law_rule) .none kV_29 dc_29 pm_29 an_29 cd_29 ct_29), sl_29⟩)
    (c__law_rule : PySem.W.codeIn K cd_29 "_law_rule" = true) (k__law_rule : PySem.W.keepIn K (.ref f__law_rule) = true)
    {f__law_word : Addr} {od_30 an_30 : Option Addr} {sl_30 : Array (Option Value)} {oc_30 kV_30 dc_30 pm_30 cd_30 ct_30 : Value}
    (a__law_word : PySem.W.nsIn K mainGlobals "_law_word" = some (some (.ref f__law_word))) (l__law_word : K.lookup f__law_word = some ⟨oc_30, od_30, .func (PySem.W.fnOf "_law_word" "_law_word" (defArgs s__law_word) (defBody s__law_word) (defScope s__law_word) .none kV_30 dc_30 pm_30 an_30 cd_30 ct_30), sl_30⟩)
    (c__law_word : PySem.W.codeIn K cd_30 "_law_word" = true) (k__law_word : PySem.W.keepIn K (.ref f__law_word) = true)
    {f__law_key : Addr} {od_31 an_31 : Option Addr} {sl_31 : Array (Option Value)} {oc_31 kV_31 dc_31 pm_31 cd_31 ct_31 : Value}
    (a__law_key : PySem.W.nsIn K mainGlobals "_law_key" = some (some (.ref f__law_key))) (l__law_key : K.lookup f__law_key = some ⟨oc_31, od_31, .func (PySem.W.fnOf "_law_key" "_law_key" (defArgs s__law_key) (defBody s__law_key) (defScope s__law_key) .none kV_31 dc_31 pm_31 an_31 cd_31 ct_31), sl_31⟩)
    (c__law_key : PySem.W.codeIn K cd_31 "_law_key" = true) (k__law_key : PySem.W.keepIn K (.ref f__law_key) = true)
    {f__law_exchanges : Addr} {od_32 an_32 : Option Addr} {sl_32 : Array (Option Value)} {oc_32 kV_32 dc_32 pm_32 cd_32 ct_32 : Value}
    (a__law_exchanges : PySem.W.nsIn K mainGlobals "_law_exchanges" = some (some (.ref f__law_exchanges))) (l__law_exchanges : K.lookup f__law_exchanges = some ⟨oc_32, od_32, .func (PySem.W.fnOf "_law_exchanges" "_law_exchanges" (defArgs s__law_exchanges) (defBody s__law_exchanges) (defScope s__law_exchanges) .none kV_32 dc_32 pm_32 an_32 cd_32 ct_32), sl_32⟩)
    (c__law_exchanges : PySem.W.codeIn K cd_32 "_law_exchanges" = true) (k__law_exchanges : PySem.W.keepIn K (.ref f__law_exchanges) = true)
    {f__law_other : Addr} {od_33 an_33 : Option Addr} {sl_33 : Array (Option Value)} {oc_33 kV_33 dc_33 pm_33 cd_33 ct_33 : Value}
    (a__law_other : PySem.W.nsIn K mainGlobals "_law_other" = some (some (.ref f__law_other))) (l__law_other : K.lookup f__law_other = some ⟨oc_33, od_33, .func (PySem.W.fnOf "_law_other" "_law_other" (defArgs s__law_other) (defBody s__law_other) (defScope s__law_other) .none kV_33 dc_33 pm_33 an_33 cd_33 ct_33), sl_33⟩)
    (c__law_other : PySem.W.codeIn K cd_33 "_law_other" = true) (k__law_other : PySem.W.keepIn K (.ref f__law_other) = true)
    {f__law_is_way : Addr} {od_34 an_34 : Option Addr} {sl_34 : Array (Option Value)} {oc_34 kV_34 dc_34 pm_34 cd_34 ct_34 : Value}
    (a__law_is_way : PySem.W.nsIn K mainGlobals "_law_is_way" = some (some (.ref f__law_is_way))) (l__law_is_way : K.lookup f__law_is_way = some ⟨oc_34, od_34, .func (PySem.W.fnOf "_law_is_way" "_law_is_way" (defArgs s__law_is_way) (defBody s__law_is_way) (defScope s__law_is_way) .none kV_34 dc_34 pm_34 an_34 cd_34 ct_34), sl_34⟩)
    (c__law_is_way : PySem.W.codeIn K cd_34 "_law_is_way" = true) (k__law_is_way : PySem.W.keepIn K (.ref f__law_is_way) = true)
    {f__law_first_index : Addr} {od_35 an_35 : Option Addr} {sl_35 : Array (Option Value)} {oc_35 kV_35 dc_35 pm_35 cd_35 ct_35 : Value}
    (a__law_first_index : PySem.W.nsIn K mainGlobals "_law_first_index" = some (some (.ref f__law_first_index))) (l__law_first_index : K.lookup f__law_first_index = some ⟨oc_35, od_35, .func (PySem.W.fnOf "_law_first_index" "_law_first_index" (defArgs s__law_first_index) (defBody s__law_first_index) (defScope s__law_first_index) .none kV_35 dc_35 pm_35 an_35 cd_35 ct_35), sl_35⟩)
    (c__law_first_index : PySem.W.codeIn K cd_35 "_law_first_index" = true) (k__law_first_index : PySem.W.keepIn K (.ref f__law_first_index) = true)
    {f__law_right : Addr} {od_36 an_36 : Option Addr} {sl_36 : Array (Option Value)} {oc_36 kV_36 dc_36 pm_36 cd_36 ct_36 : Value}
    (a__law_right : PySem.W.nsIn K mainGlobals "_law_right" = some (some (.ref f__law_right))) (l__law_right : K.lookup f__law_right = some ⟨oc_36, od_36, .func (PySem.W.fnOf "_law_right" "_law_right" (defArgs s__law_right) (defBody s__law_right) (defScope s__law_right) .none kV_36 dc_36 pm_36 an_36 cd_36 ct_36), sl_36⟩)
    (c__law_right : PySem.W.codeIn K cd_36 "_law_right" = true) (k__law_right : PySem.W.keepIn K (.ref f__law_right) = true)
    {f_law : Addr} {od_37 an_37 : Option Addr} {sl_37 : Array (Option Value)} {oc_37 kV_37 dc_37 pm_37 cd_37 ct_37 : Value}
    (a_law : PySem.W.nsIn K mainGlobals "law" = some (some (.ref f_law))) (l_law : K.lookup f_law = some ⟨oc_37, od_37, .func (PySem.W.fnOf "law" "law" (defArgs s_law) (defBody s_law) (defScope s_law) .none kV_37 dc_37 pm_37 an_37 cd_37 ct_37), sl_37⟩)
    (c_law : PySem.W.codeIn K cd_37 "law" = true) (k_law : PySem.W.keepIn K (.ref f_law) = true)
    {f_Table___init__ : Addr} {od_38 an_38 : Option Addr} {sl_38 : Array (Option Value)} {oc_38 kV_38 dc_38 pm_38 cd_38 ct_38 : Value}
    (a_Table___init__ : PySem.W.findIn K (.ref C) "__init__" = some (some (.ref f_Table___init__))) (l_Table___init__ : K.lookup f_Table___init__ = some ⟨oc_38, od_38, .func (PySem.W.fnOf "__init__" "Table.__init__" (defArgs s_Table___init__) (defBody s_Table___init__) (defScope s_Table___init__) .none kV_38 dc_38 pm_38 an_38 cd_38 ct_38), sl_38⟩)
    (c_Table___init__ : PySem.W.codeIn K cd_38 "Table.__init__" = true) (k_Table___init__ : PySem.W.keepIn K (.ref f_Table___init__) = true)
    {f_Table___call__ : Addr} {od_39 an_39 : Option Addr} {sl_39 : Array (Option Value)} {oc_39 kV_39 dc_39 pm_39 cd_39 ct_39 : Value}
    (a_Table___call__ : PySem.W.findIn K (.ref C) "__call__" = some (some (.ref f_Table___call__))) (l_Table___call__ : K.lookup f_Table___call__ = some ⟨oc_39, od_39, .func (PySem.W.fnOf "__call__" "Table.__call__" (defArgs s_Table___call__) (defBody s_Table___call__) (defScope s_Table___call__) .none kV_39 dc_39 pm_39 an_39 cd_39 ct_39), sl_39⟩)
    (c_Table___call__ : PySem.W.codeIn K cd_39 "Table.__call__" = true) (k_Table___call__ : PySem.W.keepIn K (.ref f_Table___call__) = true)
    {f_Table_folds : Addr} {od_40 an_40 : Option Addr} {sl_40 : Array (Option Value)} {oc_40 kV_40 dc_40 pm_40 cd_40 ct_40 : Value}
    (a_Table_folds : PySem.W.recIn K pf "property" = some (.ref f_Table_folds :: rsf)) (l_Table_folds : K.lookup f_Table_folds = some ⟨oc_40, od_40, .func (PySem.W.fnOf "folds" "Table.folds" (defArgs s_Table_folds) (defBody s_Table_folds) (defScope s_Table_folds) .none kV_40 dc_40 pm_40 an_40 cd_40 ct_40), sl_40⟩)
    (c_Table_folds : PySem.W.codeIn K cd_40 "Table.folds" = true) (k_Table_folds : PySem.W.keepIn K (.ref f_Table_folds) = true)
    {f_Table_marks : Addr} {od_41 an_41 : Option Addr} {sl_41 : Array (Option Value)} {oc_41 kV_41 dc_41 pm_41 cd_41 ct_41 : Value}
    (a_Table_marks : PySem.W.recIn K pm "property" = some (.ref f_Table_marks :: rsm)) (l_Table_marks : K.lookup f_Table_marks = some ⟨oc_41, od_41, .func (PySem.W.fnOf "marks" "Table.marks" (defArgs s_Table_marks) (defBody s_Table_marks) (defScope s_Table_marks) .none kV_41 dc_41 pm_41 an_41 cd_41 ct_41), sl_41⟩)
    (c_Table_marks : PySem.W.codeIn K cd_41 "Table.marks" = true) (k_Table_marks : PySem.W.keepIn K (.ref f_Table_marks) = true)
    {f_NoWord___init__ : Addr} {od_42 an_42 : Option Addr} {sl_42 : Array (Option Value)} {oc_42 kV_42 dc_42 pm_42 cd_42 ct_42 : Value}
    (a_NoWord___init__ : PySem.W.findIn K (.ref CW) "__init__" = some (some (.ref f_NoWord___init__))) (l_NoWord___init__ : K.lookup f_NoWord___init__ = some ⟨oc_42, od_42, .func (PySem.W.fnOf "__init__" "NoWord.__init__" (defArgs s_NoWord___init__) (defBody s_NoWord___init__) (defScope s_NoWord___init__) .none kV_42 dc_42 pm_42 an_42 cd_42 ct_42), sl_42⟩)
    (c_NoWord___init__ : PySem.W.codeIn K cd_42 "NoWord.__init__" = true) (k_NoWord___init__ : PySem.W.keepIn K (.ref f_NoWord___init__) = true)
    (z_isinstance : PySem.W.nsIn K mainGlobals "isinstance" = some none)
    (z_str : PySem.W.nsIn K mainGlobals "str" = some none)
    (z_int : PySem.W.nsIn K mainGlobals "int" = some none)
    (z_bool : PySem.W.nsIn K mainGlobals "bool" = some none)
    (z_len : PySem.W.nsIn K mainGlobals "len" = some none)
    (z_all : PySem.W.nsIn K mainGlobals "all" = some none)
    (z_any : PySem.W.nsIn K mainGlobals "any" = some none)
    (z_abs : PySem.W.nsIn K mainGlobals "abs" = some none)
    (z_range : PySem.W.nsIn K mainGlobals "range" = some none)
    (z_max : PySem.W.nsIn K mainGlobals "max" = some none)
    (z_min : PySem.W.nsIn K mainGlobals "min" = some none)
    (z_list : PySem.W.nsIn K mainGlobals "list" = some none)
    (z_dict : PySem.W.nsIn K mainGlobals "dict" = some none)
    (z_sorted : PySem.W.nsIn K mainGlobals "sorted" = some none)
    (z_enumerate : PySem.W.nsIn K mainGlobals "enumerate" = some none)
    (z_set : PySem.W.nsIn K mainGlobals "set" = some none)
    (z_tuple : PySem.W.nsIn K mainGlobals "tuple" = some none)
    (z_repr : PySem.W.nsIn K mainGlobals "repr" = some none)
    {t_SIGNS : Tok} (g_SIGNS : PySem.W.nsIn K mainGlobals "SIGNS" = some (some (.str SIGNS t_SIGNS)))
    {t_LONGEST_WORD : Tok} (g_LONGEST_WORD : PySem.W.nsIn K mainGlobals "LONGEST_WORD" = some (some (.int 40 t_LONGEST_WORD)))
    {t_LONGEST_FOLD : Tok} (g_LONGEST_FOLD : PySem.W.nsIn K mainGlobals "LONGEST_FOLD" = some (some (.int 3 t_LONGEST_FOLD)))
    {t_MOST_FOLDS : Tok} (g_MOST_FOLDS : PySem.W.nsIn K mainGlobals "MOST_FOLDS" = some (some (.int 40 t_MOST_FOLDS)))
    {t_MOST_MARKS : Tok} (g_MOST_MARKS : PySem.W.nsIn K mainGlobals "MOST_MARKS" = some (some (.int 8 t_MOST_MARKS)))
    {t_ONE : Tok} (g_ONE : PySem.W.nsIn K mainGlobals "ONE" = some (some (.str "one" t_ONE)))
    {t_TWO : Tok} (g_TWO : PySem.W.nsIn K mainGlobals "TWO" = some (some (.str "two" t_TWO)))
    (pFg : PySem.W.specialIn K (.ref pf) "__get__" = some (some (.builtin "property.__get__")))
    (pFt : PySem.W.takesIn K (.ref pf) = some true)
    (pMg : PySem.W.specialIn K (.ref pm) "__get__" = some (some (.builtin "property.__get__")))
    (pMt : PySem.W.takesIn K (.ref pm) = some true)
    (pg : PySem.W.plainGet K C Str.empty = true)
    (hd : PySem.W.hasDictIn K C = true)
    (po : PySem.W.plainOver K C = true)
    (sa : PySem.W.findIn K (.ref C) "__setattr__" = some (some (.builtin "object.__setattr__")))
    (mkC : PySem.W.makesIn K C = true)
    (kc : PySem.W.keepIn K (.ref C) = true)
    (noF : PySem.W.findIn K (.ref C) "_folds" = some none)
    (noM : PySem.W.findIn K (.ref C) "_marks" = some none)
    (fnI : PySem.W.isFn K (.ref f_Table___init__) = true)
    (fnC : PySem.W.isFn K (.ref f_Table___call__) = true)
    (fiC : PySem.W.fnIn K f_Table___call__ = true)
    (nMC : PySem.W.nsIn K mainGlobals "MARK_CLASSES" = some (some (.ref MC)))
    (kMC : K.lookup MC = some ⟨.type "tuple", ddM, .seq ([.int 1 tM1, .int 2 tM2, .int 3 tM3] : List Value).toArray nM, slM⟩)
    (xL : K.lookup CW = some (excClassObj nm q CW NW bs [.type "ValueError", .type "Exception", .type "BaseException", .type "object"] true sn sub ab col dd m0 m1 m2 m3 m5 "ValueError.__new__"))
    (wsa : PySem.W.findIn K (.ref CW) "__setattr__" = some (some (.builtin "object.__setattr__")))
    (wga : PySem.W.findIn K (.ref CW) "__getattribute__" = some (some (.builtin "BaseException.__getattribute__")))
    (wgg : PySem.W.findIn K (.ref CW) "__getattr__" = some none)
    (wnw : PySem.W.findIn K (.ref CW) "word" = some none)
    (wex : PySem.W.subIn K (.ref CW) (.type "BaseException") = some true)
    (wty : PySem.W.typeIn K (.ref CW) = some (.type "type"))
    (wkp : PySem.W.keepIn K (.ref CW) = true)
    (whd : PySem.W.hasDictIn K CW = true)
    (wic : PySem.W.isClsIn K CW = true)
    (wss : PySem.W.subIn K (.ref CW) (.ref CW) = some true)
    (wti : PySem.W.typeIn K (.ref f_NoWord___init__) = some (.type "function"))
    (wca : PySem.W.findIn K (.ref CW) "__class__" = some (some (.builtin "object.__class__")))
    (wcg : PySem.W.specialIn K (.builtin "object.__class__") "__get__" = some (some (.builtin "getset_descriptor.__get__")))
    (wct : PySem.W.takesIn K (.builtin "object.__class__") = some true)
    (wmo : PySem.W.mroIn K CW (.type "object") = some true)
    : ∃ fd : FuncData, (∀ (s : Shared) (v : Value), BindsTo s fd ⟨[v], []⟩ [("_law_script", v)]) ∧ ∀ base : Heap, K.In base → base.Ns mainGlobals mg → FnG l.prog w K mg base CX0 10 fa fd ["_law_script"] (spLaw K) := by
  have e := hfa.symm.trans (PySem.W.mg_of X G a_law)
  cases e
  have T : Txt K mg := { b_isinstance := PySem.W.mg_none_of X G z_isinstance, b_str := PySem.W.mg_none_of X G z_str, b_int := PySem.W.mg_none_of X G z_int, b_bool := PySem.W.mg_none_of X G z_bool, b_len := PySem.W.mg_none_of X G z_len, b_all := PySem.W.mg_none_of X G z_all, b_any := PySem.W.mg_none_of X G z_any, b_abs := PySem.W.mg_none_of X G z_abs, b_range := PySem.W.mg_none_of X G z_range, b_max := PySem.W.mg_none_of X G z_max, b_min := PySem.W.mg_none_of X G z_min, b_list := PySem.W.mg_none_of X G z_list, b_dict := PySem.W.mg_none_of X G z_dict, b_sorted := PySem.W.mg_none_of X G z_sorted, b_enumerate := PySem.W.mg_none_of X G z_enumerate, b_set := PySem.W.mg_none_of X G z_set, b_tuple := PySem.W.mg_none_of X G z_tuple, b_repr := PySem.W.mg_none_of X G z_repr, c_SIGNS := ⟨_, PySem.W.mg_of X G g_SIGNS, ⟨t_SIGNS, rfl⟩⟩, c_LONGEST_WORD := ⟨_, PySem.W.mg_of X G g_LONGEST_WORD, ⟨t_LONGEST_WORD, rfl⟩⟩, c_LONGEST_FOLD := ⟨_, PySem.W.mg_of X G g_LONGEST_FOLD, ⟨t_LONGEST_FOLD, rfl⟩⟩, c_MOST_FOLDS := ⟨_, PySem.W.mg_of X G g_MOST_FOLDS, ⟨t_MOST_FOLDS, rfl⟩⟩, c_MOST_MARKS := ⟨_, PySem.W.mg_of X G g_MOST_MARKS, ⟨t_MOST_MARKS, rfl⟩⟩, c_ONE := ⟨_, PySem.W.mg_of X G g_ONE, ⟨t_ONE, rfl⟩⟩, c_TWO := ⟨_, PySem.W.mg_of X G g_TWO, ⟨t_TWO, rfl⟩⟩ }
  have F_is_sign := fun_mk (st := s_is_sign) l_is_sign c_is_sign k_is_sign
  have b_is_sign := F_is_sign.binds (ps := ["thing"]) fun _ _ _ _ _ _ us hl => match us, hl with | [_], _ => rfl
  have F_is_word := fun_mk (st := s_is_word) l_is_word c_is_word k_is_word
  have b_is_word := F_is_word.binds (ps := ["thing"]) fun _ _ _ _ _ _ us hl => match us, hl with | [_], _ => rfl
  have F__is_word_up_to := fun_mk (st := s__is_word_up_to) l__is_word_up_to c__is_word_up_to k__is_word_up_to
  have b__is_word_up_to := F__is_word_up_to.binds (ps := ["thing", "most"]) fun _ _ _ _ _ _ us hl => match us, hl with | [_, _], _ => rfl
  have F__is_fold_word := fun_mk (st := s__is_fold_word) l__is_fold_word c__is_fold_word k__is_fold_word
  have b__is_fold_word := F__is_fold_word.binds (ps := ["thing"]) fun _ _ _ _ _ _ us hl => match us, hl with | [_], _ => rfl
  have F_is_number := fun_mk (st := s_is_number) l_is_number c_is_number k_is_number
  have b_is_number := F_is_number.binds (ps := ["thing"]) fun _ _ _ _ _ _ us hl => match us, hl with | [_], _ => rfl
  have F__is_mark_class := fun_mk (st := s__is_mark_class) l__is_mark_class c__is_mark_class k__is_mark_class
  have b__is_mark_class := F__is_mark_class.binds (ps := ["thing"]) fun _ _ _ _ _ _ us hl => match us, hl with | [_], _ => rfl
  have F__check_folds := fun_mk (st := s__check_folds) l__check_folds c__check_folds k__check_folds
  have b__check_folds := F__check_folds.binds (ps := ["folds"]) fun _ _ _ _ _ _ us hl => match us, hl with | [_], _ => rfl
  have F__check_marks := fun_mk (st := s__check_marks) l__check_marks c__check_marks k__check_marks
  have b__check_marks := F__check_marks.binds (ps := ["marks", "folds"]) fun _ _ _ _ _ _ us hl => match us, hl with | [_, _], _ => rfl
  have F__check_sizes := fun_mk (st := s__check_sizes) l__check_sizes c__check_sizes k__check_sizes
  have b__check_sizes := F__check_sizes.binds (ps := ["folds", "marks"]) fun _ _ _ _ _ _ us hl => match us, hl with | [_, _], _ => rfl
  have F__with_folds := fun_mk (st := s__with_folds) l__with_folds c__with_folds k__with_folds
  have b__with_folds := F__with_folds.binds (ps := ["folds", "text"]) fun _ _ _ _ _ _ us hl => match us, hl with | [_, _], _ => rfl
  have F__with_marks_in_order := fun_mk (st := s__with_marks_in_order) l__with_marks_in_order c__with_marks_in_order k__with_marks_in_order
  have b__with_marks_in_order := F__with_marks_in_order.binds (ps := ["marks", "text"]) fun _ _ _ _ _ _ us hl => match us, hl with | [_, _], _ => rfl
  have F__run_in_order := fun_mk (st := s__run_in_order) l__run_in_order c__run_in_order k__run_in_order
  have b__run_in_order := F__run_in_order.binds (ps := ["marks", "run"]) fun _ _ _ _ _ _ us hl => match us, hl with | [_, _], _ => rfl
  have F_key_of := fun_mk (st := s_key_of) l_key_of c_key_of k_key_of
  have b_key_of := F_key_of.binds (ps := ["table", "word"]) fun _ _ _ _ _ _ us hl => match us, hl with | [_, _], _ => rfl
  have F_exchanges := fun_mk (st := s_exchanges) l_exchanges c_exchanges k_exchanges
  have b_exchanges := F_exchanges.binds (ps := ["table", "word"]) fun _ _ _ _ _ _ us hl => match us, hl with | [_, _], _ => rfl
  have F__put := fun_mk (st := s__put) l__put c__put k__put
  have b__put := F__put.binds (ps := ["text", "at", "size", "piece"]) fun _ _ _ _ _ _ us hl => match us, hl with | [_, _, _, _], _ => rfl
  have F__with_one_fold := fun_mk (st := s__with_one_fold) l__with_one_fold c__with_one_fold k__with_one_fold
  have b__with_one_fold := F__with_one_fold.binds (ps := ["folds", "text"]) fun _ _ _ _ _ _ us hl => match us, hl with | [_, _], _ => rfl
  have F__with_one_fold_back := fun_mk (st := s__with_one_fold_back) l__with_one_fold_back c__with_one_fold_back k__with_one_fold_back
  have b__with_one_fold_back := F__with_one_fold_back.binds (ps := ["folds", "text"]) fun _ _ _ _ _ _ us hl => match us, hl with | [_, _], _ => rfl
  have F__with_one_swap := fun_mk (st := s__with_one_swap) l__with_one_swap c__with_one_swap k__with_one_swap
  have b__with_one_swap := F__with_one_swap.binds (ps := ["marks", "text"]) fun _ _ _ _ _ _ us hl => match us, hl with | [_, _], _ => rfl
  have F_may_swap := fun_mk (st := s_may_swap) l_may_swap c_may_swap k_may_swap
  have b_may_swap := F_may_swap.binds (ps := ["marks", "left", "right"]) fun _ _ _ _ _ _ us hl => match us, hl with | [_, _, _], _ => rfl
  have F__swapped := fun_mk (st := s__swapped) l__swapped c__swapped k__swapped
  have b__swapped := F__swapped.binds (ps := ["text", "at"]) fun _ _ _ _ _ _ us hl => match us, hl with | [_, _], _ => rfl
  have F_find_way := fun_mk (st := s_find_way) l_find_way c_find_way k_find_way
  have b_find_way := F_find_way.binds (ps := ["table", "one", "other"]) fun _ _ _ _ _ _ us hl => match us, hl with | [_, _, _], _ => rfl
  have F__way_to_key := fun_mk (st := s__way_to_key) l__way_to_key c__way_to_key k__way_to_key
  have b__way_to_key := F__way_to_key.binds (ps := ["table", "word"]) fun _ _ _ _ _ _ us hl => match us, hl with | [_, _], _ => rfl
  have F__nearer_to_key := fun_mk (st := s__nearer_to_key) l__nearer_to_key c__nearer_to_key k__nearer_to_key
  have b__nearer_to_key := F__nearer_to_key.binds (ps := ["folds", "marks", "text"]) fun _ _ _ _ _ _ us hl => match us, hl with | [_, _, _], _ => rfl
  have F_paper := fun_mk (st := s_paper) l_paper c_paper k_paper
  have b_paper := F_paper.binds (ps := ["table", "one", "other"]) fun _ _ _ _ _ _ us hl => match us, hl with | [_, _, _], _ => rfl
  have F_holds := fun_mk (st := s_holds) l_holds c_holds k_holds
  have b_holds := F_holds.binds (ps := ["table", "one", "other", "thing"]) fun _ _ _ _ _ _ us hl => match us, hl with | [_, _, _, _], _ => rfl
  have F__first_difference := fun_mk (st := s__first_difference) l__first_difference c__first_difference k__first_difference
  have b__first_difference := F__first_difference.binds (ps := ["one", "other"]) fun _ _ _ _ _ _ us hl => match us, hl with | [_, _], _ => rfl
  have F__is_way := fun_mk (st := s__is_way) l__is_way c__is_way k__is_way
  have b__is_way := F__is_way.binds (ps := ["table", "one", "other", "thing"]) fun _ _ _ _ _ _ us hl => match us, hl with | [_, _, _, _], _ => rfl
  have F__law_bag := fun_mk (st := s__law_bag) l__law_bag c__law_bag k__law_bag
  have b__law_bag := F__law_bag.binds (ps := ["_law_script", "_law_at"]) fun _ _ _ _ _ _ us hl => match us, hl with | [_, _], _ => rfl
  have F__law_take := fun_mk (st := s__law_take) l__law_take c__law_take k__law_take
  have b__law_take := F__law_take.binds (ps := ["_law_bag_here", "_law_many"]) fun _ _ _ _ _ _ us hl => match us, hl with | [_, _], _ => rfl
  have F__law_rule := fun_mk (st := s__law_rule) l__law_rule c__law_rule k__law_rule
  have b__law_rule := F__law_rule.binds (ps := ["_law_bag_here"]) fun _ _ _ _ _ _ us hl => match us, hl with | [_], _ => rfl
  have F__law_word := fun_mk (st := s__law_word) l__law_word c__law_word k__law_word
  have b__law_word := F__law_word.binds (ps := ["_law_bag_here", "_law_most"]) fun _ _ _ _ _ _ us hl => match us, hl with | [_, _], _ => rfl
  have F__law_key := fun_mk (st := s__law_key) l__law_key c__law_key k__law_key
  have b__law_key := F__law_key.binds (ps := ["_law_rule_here", "_law_word_here"]) fun _ _ _ _ _ _ us hl => match us, hl with | [_, _], _ => rfl
  have F__law_exchanges := fun_mk (st := s__law_exchanges) l__law_exchanges c__law_exchanges k__law_exchanges
  have b__law_exchanges := F__law_exchanges.binds (ps := ["_law_rule_here", "_law_word_here"]) fun _ _ _ _ _ _ us hl => match us, hl with | [_, _], _ => rfl
  have F__law_other := fun_mk (st := s__law_other) l__law_other c__law_other k__law_other
  have b__law_other := F__law_other.binds (ps := ["_law_bag_here", "_law_rule_here", "_law_name"]) fun _ _ _ _ _ _ us hl => match us, hl with | [_, _, _], _ => rfl
  have F__law_is_way := fun_mk (st := s__law_is_way) l__law_is_way c__law_is_way k__law_is_way
  have b__law_is_way := F__law_is_way.binds (ps := ["_law_rule_here", "_law_one", "_law_other_here", "_law_thing"]) fun _ _ _ _ _ _ us hl => match us, hl with | [_, _, _, _], _ => rfl
  have F__law_first_index := fun_mk (st := s__law_first_index) l__law_first_index c__law_first_index k__law_first_index
  have b__law_first_index := F__law_first_index.binds (ps := ["_law_one", "_law_other_here"]) fun _ _ _ _ _ _ us hl => match us, hl with | [_, _], _ => rfl
  have F__law_right := fun_mk (st := s__law_right) l__law_right c__law_right k__law_right
  have b__law_right := F__law_right.binds (ps := ["_law_rule_here", "_law_table", "_law_one", "_law_other_here"]) fun _ _ _ _ _ _ us hl => match us, hl with | [_, _, _, _], _ => rfl
  have F_law := fun_mk (st := s_law) l_law c_law k_law
  have b_law := F_law.binds (ps := ["_law_script"]) fun _ _ _ _ _ _ us hl => match us, hl with | [_], _ => rfl
  have F_Table___init__ := fun_mk (st := s_Table___init__) l_Table___init__ c_Table___init__ k_Table___init__
  have b_Table___init__ := F_Table___init__.binds (ps := ["self", "folds", "marks"]) fun _ _ _ _ _ _ us hl => match us, hl with | [_, _, _], _ => rfl
  have F_Table___call__ := fun_mk (st := s_Table___call__) l_Table___call__ c_Table___call__ k_Table___call__
  have b_Table___call__ := F_Table___call__.binds (ps := ["self", "word"]) fun _ _ _ _ _ _ us hl => match us, hl with | [_, _], _ => rfl
  have F_Table_folds := fun_mk (st := s_Table_folds) l_Table_folds c_Table_folds k_Table_folds
  have b_Table_folds := F_Table_folds.binds (ps := ["self"]) fun _ _ _ _ _ _ us hl => match us, hl with | [_], _ => rfl
  have F_Table_marks := fun_mk (st := s_Table_marks) l_Table_marks c_Table_marks k_Table_marks
  have b_Table_marks := F_Table_marks.binds (ps := ["self"]) fun _ _ _ _ _ _ us hl => match us, hl with | [_], _ => rfl
  have F_NoWord___init__ := fun_mk (st := s_NoWord___init__) l_NoWord___init__ c_NoWord___init__ k_NoWord___init__
  have b_NoWord___init__ := F_NoWord___init__.binds (ps := ["self", "word"]) fun _ _ _ _ _ _ us hl => match us, hl with | [_, _], _ => rfl
  refine ⟨PySem.W.fnOf "law" "law" (defArgs s_law) (defBody s_law) (defScope s_law) .none kV_37 dc_37 pm_37 an_37 cd_37 ct_37, fun s v => .of_eq rfl, fun base _ _ => ?_⟩
  have mgo := fun {x : Str} {v : Value} (z : PySem.W.nsIn K mainGlobals x = some (some v)) => PySem.W.mg_of X G z
  have TT : TabT K mg ⟨C, CW, MC, pf, f_Table_folds, pm, f_Table_marks, f_Table___call__, f_Table___init__, f_NoWord___init__⟩ :=
    { cl := ⟨pg, hd, po, sa⟩, nF := noF, nM := noM, mgC := mgo nC, p_folds := ⟨pF, pFg, pFt, rsf, a_Table_folds⟩, p_marks := ⟨pM, pMg, pMt, rsm, a_Table_marks⟩, co := ⟨a_Table___call__, fnC, fiC⟩, mkT := ⟨mkC, a_Table___init__, fnI, kc⟩,
      ow := ⟨⟨nm, q, NW, bs, _, sn, sub, ab, col, dd, m0, m1, m2, m3, m5, xL, by decide +kernel⟩, wsa, wex, wty, wkp⟩, nW := wnw, mgW := mgo nW, iW := a_NoWord___init__, tW := wti, xf := ⟨wga, wgg, wex, whd⟩, ex := ⟨wic, wga, wgg, wex, wca, wcg, wct, wmo⟩,
      te := exm_self wex wic wty wss, mMC := mgo nMC, kMC := ⟨ddM, tM1, tM2, tM3, nM, slM, kMC⟩ }
  have C_take : Cal l.prog w K mg base CX0 1 "_law_take" ["_law_bag_here", "_law_many"] spTake _ _ := ⟨ok__law_take F__law_take, mgo a__law_take, k__law_take, b__law_take⟩
  have C_bag : Cal l.prog w K mg base CX0 1 "_law_bag" ["_law_script", "_law_at"] (spBag K) _ _ := ⟨ok__law_bag F__law_bag T, mgo a__law_bag, k__law_bag, b__law_bag⟩
  have C_up : Cal l.prog w K mg base CX0 1 "_is_word_up_to" ["thing", "most"] spUp _ _ := ⟨ok__is_word_up_to F__is_word_up_to T, mgo a__is_word_up_to, k__is_word_up_to, b__is_word_up_to⟩
  have C_sign : Cal l.prog w K mg base CX0 2 "is_sign" ["thing"] spSg _ _ := ⟨ok_is_sign F_is_sign T, mgo a_is_sign, k_is_sign, b_is_sign⟩
  have C_word : Cal l.prog w K mg base CX0 2 "is_word" ["thing"] (spUpTo 40) _ _ := ⟨ok_is_word F_is_word T C_up, mgo a_is_word, k_is_word, b_is_word⟩
  have C_fw : Cal l.prog w K mg base CX0 2 "_is_fold_word" ["thing"] (spUpTo 3) _ _ := ⟨ok__is_fold_word F__is_fold_word T C_up, mgo a__is_fold_word, k__is_fold_word, b__is_fold_word⟩
  have C_num : Cal l.prog w K mg base CX0 1 "is_number" ["thing"] spNum _ _ := ⟨ok_is_number F_is_number T, mgo a_is_number, k_is_number, b_is_number⟩
  have C_cls : Cal l.prog w K mg base CX0 2 "_is_mark_class" ["thing"] spCls _ _ := ⟨ok__is_mark_class F__is_mark_class T TT C_num, mgo a__is_mark_class, k__is_mark_class, b__is_mark_class⟩
  have C_cf : Cal l.prog w K mg base CX0 3 "_check_folds" ["folds"] spChkF _ _ := ⟨ok__check_folds F__check_folds T C_sign C_fw, mgo a__check_folds, k__check_folds, b__check_folds⟩
  have C_cm : Cal l.prog w K mg base CX0 3 "_check_marks" ["marks", "folds"] spChkM _ _ := ⟨ok__check_marks F__check_marks T C_sign C_cls, mgo a__check_marks, k__check_marks, b__check_marks⟩
  have C_cs : Cal l.prog w K mg base CX0 1 "_check_sizes" ["folds", "marks"] spChkS _ _ := ⟨ok__check_sizes F__check_sizes T, mgo a__check_sizes, k__check_sizes, b__check_sizes⟩
  have C_init : CalM l.prog w K mg base CX0 4 ["self", "folds", "marks"] (spInitT C) _ _ := ⟨ok_init F_Table___init__ T TT C_cf C_cm (C_cs.up (by decide)), b_Table___init__⟩
  have C_wf : Cal l.prog w K mg base CX0 1 "_with_folds" ["folds", "text"] spFolded _ _ := ⟨ok__with_folds F__with_folds, mgo a__with_folds, k__with_folds, b__with_folds⟩
  have C_run : Cal l.prog w K mg base CX0 1 "_run_in_order" ["marks", "run"] spRun _ _ := ⟨ok__run_in_order F__run_in_order TT, mgo a__run_in_order, k__run_in_order, b__run_in_order⟩
  have C_wm : Cal l.prog w K mg base CX0 2 "_with_marks_in_order" ["marks", "text"] spMarks _ _ := ⟨ok__with_marks_in_order F__with_marks_in_order T C_run, mgo a__with_marks_in_order, k__with_marks_in_order, b__with_marks_in_order⟩
  have C_folds : CalM l.prog w K mg base CX0 1 ["self"] (spProp C "_folds") _ _ := ⟨ok_folds F_Table_folds T TT, b_Table_folds⟩
  have C_marks : CalM l.prog w K mg base CX0 1 ["self"] (spProp C "_marks") _ _ := ⟨ok_marks F_Table_marks T TT, b_Table_marks⟩
  have C_ko : Cal l.prog w K mg base CX0 4 "key_of" ["table", "word"] (spKeyOf C) _ _ := ⟨ok_key_of F_key_of TT C_wm (C_wf.up (by decide)), mgo a_key_of, k_key_of, b_key_of⟩
  have C_nowI : CalM l.prog w K mg base CX0 1 ["self", "word"] (spNoWI CW) _ _ := ⟨ok_noword F_NoWord___init__ TT, b_NoWord___init__⟩
  have C_call : CalM l.prog w K mg base (L2.CX l.prog w) 6 ["self", "word"] (spCallT C CW) _ _ := ⟨ok_call F_Table___call__ TT (C_word.up (by decide)) C_ko (C_nowI.up (by decide)), b_Table___call__⟩
  have C_rule : Cal l.prog w K mg base CX0 2 "_law_rule" ["_law_bag_here"] spRule _ _ := ⟨ok__law_rule F__law_rule T C_take, mgo a__law_rule, k__law_rule, b__law_rule⟩
  have C_wd : Cal l.prog w K mg base CX0 2 "_law_word" ["_law_bag_here", "_law_most"] spWord _ _ := ⟨ok__law_word F__law_word T C_take, mgo a__law_word, k__law_word, b__law_word⟩
  have C_put : Cal l.prog w K mg base CX0 1 "_put" ["text", "at", "size", "piece"] spPut _ _ := ⟨ok__put F__put, mgo a__put, k__put, b__put⟩
  have C_may : Cal l.prog w K mg base CX0 1 "may_swap" ["marks", "left", "right"] spMay _ _ := ⟨ok_may_swap F_may_swap, mgo a_may_swap, k_may_swap, b_may_swap⟩
  have C_swd : Cal l.prog w K mg base CX0 2 "_swapped" ["text", "at"] spSwd _ _ := ⟨ok__swapped F__swapped C_put, mgo a__swapped, k__swapped, b__swapped⟩
  have C_wof : Cal l.prog w K mg base CX0 2 "_with_one_fold" ["folds", "text"] spOF _ _ := ⟨ok__with_one_fold F__with_one_fold T C_put, mgo a__with_one_fold, k__with_one_fold, b__with_one_fold⟩
  have C_wob : Cal l.prog w K mg base CX0 2 "_with_one_fold_back" ["folds", "text"] spOB _ _ := ⟨ok__with_one_fold_back F__with_one_fold_back T C_put, mgo a__with_one_fold_back, k__with_one_fold_back, b__with_one_fold_back⟩
  have C_wos : Cal l.prog w K mg base CX0 3 "_with_one_swap" ["marks", "text"] spOS _ _ := ⟨ok__with_one_swap F__with_one_swap T (C_may.up (by decide)) C_swd, mgo a__with_one_swap, k__with_one_swap, b__with_one_swap⟩
  have C_exch : Cal l.prog w K mg base CX0 5 "exchanges" ["table", "word"] (spExch C) _ _ := ⟨ok_exchanges F_exchanges T TT (C_wof.up (by decide)) (C_wob.up (by decide)) C_wos (C_folds.up (by decide)) (C_marks.up (by decide)), mgo a_exchanges, k_exchanges, b_exchanges⟩
  have C_near : Cal l.prog w K mg base CX0 3 "_nearer_to_key" ["folds", "marks", "text"] spNear _ _ := ⟨ok__nearer_to_key F__nearer_to_key T (C_put.up (by decide)) (C_may.up (by decide)) C_swd, mgo a__nearer_to_key, k__nearer_to_key, b__nearer_to_key⟩
  have C_way : Cal l.prog w K mg base CX0 5 "_way_to_key" ["table", "word"] (spWay C) _ _ := ⟨ok__way_to_key F__way_to_key TT C_near (C_folds.up (by decide)) (C_marks.up (by decide)), mgo a__way_to_key, k__way_to_key, b__way_to_key⟩
  have C_find : Cal l.prog w K mg base CX0 6 "find_way" ["table", "one", "other"] (spFind C) _ _ := ⟨ok_find_way (A := ⟨C, CW, MC, pf, f_Table_folds, pm, f_Table_marks, f_Table___call__, f_Table___init__, f_NoWord___init__⟩) F_find_way C_way, mgo a_find_way, k_find_way, b_find_way⟩
  have C_diff : Cal l.prog w K mg base CX0 1 "_first_difference" ["one", "other"] spDiff _ _ := ⟨ok__first_difference F__first_difference T, mgo a__first_difference, k__first_difference, b__first_difference⟩
  have C_isw : Cal l.prog w K mg base CX0 6 "_is_way" ["table", "one", "other", "thing"] (spIsW C) _ _ := ⟨ok__is_way (A := ⟨C, CW, MC, pf, f_Table_folds, pm, f_Table_marks, f_Table___call__, f_Table___init__, f_NoWord___init__⟩) F__is_way T C_exch, mgo a__is_way, k__is_way, b__is_way⟩
  have C_hold : Cal l.prog w K mg base CX0 7 "holds" ["table", "one", "other", "thing"] (spHolds C) _ _ := ⟨ok_holds F_holds T TT C_isw (C_num.up (by decide)) (C_diff.up (by decide)) C_call, mgo a_holds, k_holds, b_holds⟩
  have C_paper : Cal l.prog w K mg base CX0 7 "paper" ["table", "one", "other"] (spPaper C) _ _ := ⟨ok_paper (A := ⟨C, CW, MC, pf, f_Table_folds, pm, f_Table_marks, f_Table___call__, f_Table___init__, f_NoWord___init__⟩) F_paper T TT C_find (C_diff.up (by decide)) C_call, mgo a_paper, k_paper, b_paper⟩
  have C_key : Cal l.prog w K mg base CX0 1 "_law_key" ["_law_rule_here", "_law_word_here"] spKey _ _ := ⟨ok__law_key F__law_key T, mgo a__law_key, k__law_key, b__law_key⟩
  have C_lex : Cal l.prog w K mg base CX0 1 "_law_exchanges" ["_law_rule_here", "_law_word_here"] spLEx _ _ := ⟨ok__law_exchanges F__law_exchanges T, mgo a__law_exchanges, k__law_exchanges, b__law_exchanges⟩
  have C_oth : Cal l.prog w K mg base CX0 3 "_law_other" ["_law_bag_here", "_law_rule_here", "_law_name"] spOther _ _ := ⟨ok__law_other F__law_other T (C_take.up (by decide)) (C_lex.up (by decide)) C_wd, mgo a__law_other, k__law_other, b__law_other⟩
  have C_lway : Cal l.prog w K mg base CX0 2 "_law_is_way" ["_law_rule_here", "_law_one", "_law_other_here", "_law_thing"] spLWay _ _ := ⟨ok__law_is_way F__law_is_way T C_lex, mgo a__law_is_way, k__law_is_way, b__law_is_way⟩
  have C_fst : Cal l.prog w K mg base CX0 1 "_law_first_index" ["_law_one", "_law_other_here"] spFirst _ _ := ⟨ok__law_first_index F__law_first_index T, mgo a__law_first_index, k__law_first_index, b__law_first_index⟩
  have C_right : CalG l.prog w K mg base CX0 8 "_law_right" ["_law_rule_here", "_law_table", "_law_one", "_law_other_here"] (spRight C) _ _ := ⟨ok__law_right (A := ⟨C, CW, MC, pf, f_Table_folds, pm, f_Table_marks, f_Table___call__, f_Table___init__, f_NoWord___init__⟩) F__law_right T (C_key.up (by decide)) (C_find.up (by decide)) C_paper C_hold (C_lway.up (by decide)) (C_fst.up (by decide)), mgo a__law_right, k__law_right, b__law_right⟩
  exact ok_law (k := 8) F_law T TT (C_bag.up (by decide)) (C_rule.up (by decide)) (C_wd.up (by decide)) (C_key.up (by decide)) (C_oth.up (by decide)) (C_find.up (by decide)) (C_hold.up (by decide)) C_right (C_init.up (by decide))
end Nm
open PySem PySem.W PyProof.Rows in
set_option maxRecDepth 100000 in
set_option maxHeartbeats 0 in
theorem PySem.Challenge.cw_namesone_k08_whole_ways_and_papers_holds : PySem.Challenge.rw_namesone_k08_whole_ways_and_papers.Holds := by
  w_on; o_law; k_head; (case hw => w_witness2)
  k_fill
  refine Nm.walk_G (l := PySem.Challenge.rw_namesone_k08_whole_ways_and_papers) (n := 63) (k := 10) (x := "_law_script") (sp := Nm.spLaw) rfl (by decide) rfl ⟨rfl, by decide, by decide⟩ (fun w h Y => PySem.W.kIn_of Y) ?F (fun _ _ a ns hl _ hS => ⟨a, ns, rfl, hS, hl, fun _ => rfl⟩)
  case F =>
    intro w mg fa h KX G hmg
    refine' Nm.all_mk KX G hmg ?nC ?nW ?pF ?pM ?a_is_sign ?l_is_sign ?c_is_sign ?k_is_sign ?a_is_word ?l_is_word ?c_is_word ?k_is_word ?a__is_word_up_to ?l__is_word_up_to ?c__is_word_up_to ?k__is_word_up_to ?a__is_fold_word ?l__is_fold_word ?c__is_fold_word ?k__is_fold_word ?a_is_number ?l_is_number ?c_is_number ?k_is_number ?a__is_mark_class ?l__is_mark_class ?c__is_mark_class ?k__is_mark_class ?a__check_folds ?l__check_folds ?c__check_folds ?k__check_folds ?a__check_marks ?l__check_marks ?c__check_marks ?k__check_marks ?a__check_sizes ?l__check_sizes ?c__check_sizes ?k__check_sizes ?a__with_folds ?l__with_folds ?c__with_folds ?k__with_folds ?a__with_marks_in_order ?l__with_marks_in_order ?c__with_marks_in_order ?k__with_marks_in_order ?a__run_in_order ?l__run_in_order ?c__run_in_order ?k__run_in_order ?a_key_of ?l_key_of ?c_key_of ?k_key_of ?a_exchanges ?l_exchanges ?c_exchanges ?k_exchanges ?a__put ?l__put ?c__put ?k__put ?a__with_one_fold ?l__with_one_fold ?c__with_one_fold ?k__with_one_fold ?a__with_one_fold_back ?l__with_one_fold_back ?c__with_one_fold_back ?k__with_one_fold_back ?a__with_one_swap ?l__with_one_swap ?c__with_one_swap ?k__with_one_swap ?a_may_swap ?l_may_swap ?c_may_swap ?k_may_swap ?a__swapped ?l__swapped ?c__swapped ?k__swapped ?a_find_way ?l_find_way ?c_find_way ?k_find_way ?a__way_to_key ?l__way_to_key ?c__way_to_key ?k__way_to_key ?a__nearer_to_key ?l__nearer_to_key ?c__nearer_to_key ?k__nearer_to_key ?a_paper ?l_paper ?c_paper ?k_paper ?a_holds ?l_holds ?c_holds ?k_holds ?a__first_difference ?l__first_difference ?c__first_difference ?k__first_difference ?a__is_way ?l__is_way ?c__is_way ?k__is_way ?a__law_bag ?l__law_bag ?c__law_bag ?k__law_bag ?a__law_take ?l__law_take ?c__law_take ?k__law_take ?a__law_rule ?l__law_rule ?c__law_rule ?k__law_rule ?a__law_word ?l__law_word ?c__law_word ?k__law_word ?a__law_key ?l__law_key ?c__law_key ?k__law_key ?a__law_exchanges ?l__law_exchanges ?c__law_exchanges ?k__law_exchanges ?a__law_other ?l__law_other ?c__law_other ?k__law_other ?a__law_is_way ?l__law_is_way ?c__law_is_way ?k__law_is_way ?a__law_first_index ?l__law_first_index ?c__law_first_index ?k__law_first_index ?a__law_right ?l__law_right ?c__law_right ?k__law_right ?a_law ?l_law ?c_law ?k_law ?a_Table___init__ ?l_Table___init__ ?c_Table___init__ ?k_Table___init__ ?a_Table___call__ ?l_Table___call__ ?c_Table___call__ ?k_Table___call__ ?a_Table_folds ?l_Table_folds ?c_Table_folds ?k_Table_folds ?a_Table_marks ?l_Table_marks ?c_Table_marks ?k_Table_marks ?a_NoWord___init__ ?l_NoWord___init__ ?c_NoWord___init__ ?k_NoWord___init__ ?z_isinstance ?z_str ?z_int ?z_bool ?z_len ?z_all ?z_any ?z_abs ?z_range ?z_max ?z_min ?z_list ?z_dict ?z_sorted ?z_enumerate ?z_set ?z_tuple ?z_repr ?g_SIGNS ?g_LONGEST_WORD ?g_LONGEST_FOLD ?g_MOST_FOLDS ?g_MOST_MARKS ?g_ONE ?g_TWO ?pFg ?pFt ?pMg ?pMt ?pg ?hd ?po ?sa ?mkC ?kc ?noF ?noM ?fnI ?fnC ?fiC ?nMC ?kMC ?xL ?wsa ?wga ?wgg ?wnw ?wex ?wty ?wkp ?whd ?wic ?wss ?wti ?wca ?wcg ?wct ?wmo
    (case nC => k_is)
    (case nW => k_is)
    (case pF => k_is)
    (case pM => k_is)
    (case a_is_sign => k_is)
    (case l_is_sign => k_is)
    (case c_is_sign => k_is)
    (case k_is_sign => k_is)
    (case a_is_word => k_is)
    (case l_is_word => k_is)
    (case c_is_word => k_is)
    (case k_is_word => k_is)
    (case a__is_word_up_to => k_is)
    (case l__is_word_up_to => k_is)
    (case c__is_word_up_to => k_is)
    (case k__is_word_up_to => k_is)
    (case a__is_fold_word => k_is)
    (case l__is_fold_word => k_is)
    (case c__is_fold_word => k_is)
    (case k__is_fold_word => k_is)
    (case a_is_number => k_is)
    (case l_is_number => k_is)
    (case c_is_number => k_is)
    (case k_is_number => k_is)
    (case a__is_mark_class => k_is)
    (case l__is_mark_class => k_is)
    (case c__is_mark_class => k_is)
    (case k__is_mark_class => k_is)
    (case a__check_folds => k_is)
    (case l__check_folds => k_is)
    (case c__check_folds => k_is)
    (case k__check_folds => k_is)
    (case a__check_marks => k_is)
    (case l__check_marks => k_is)
    (case c__check_marks => k_is)
    (case k__check_marks => k_is)
    (case a__check_sizes => k_is)
    (case l__check_sizes => k_is)
    (case c__check_sizes => k_is)
    (case k__check_sizes => k_is)
    (case a__with_folds => k_is)
    (case l__with_folds => k_is)
    (case c__with_folds => k_is)
    (case k__with_folds => k_is)
    (case a__with_marks_in_order => k_is)
    (case l__with_marks_in_order => k_is)
    (case c__with_marks_in_order => k_is)
    (case k__with_marks_in_order => k_is)
    (case a__run_in_order => k_is)
    (case l__run_in_order => k_is)
    (case c__run_in_order => k_is)
    (case k__run_in_order => k_is)
    (case a_key_of => k_is)
    (case l_key_of => k_is)
    (case c_key_of => k_is)
    (case k_key_of => k_is)
    (case a_exchanges => k_is)
    (case l_exchanges => k_is)
    (case c_exchanges => k_is)
    (case k_exchanges => k_is)
    (case a__put => k_is)
    (case l__put => k_is)
    (case c__put => k_is)
    (case k__put => k_is)
    (case a__with_one_fold => k_is)
    (case l__with_one_fold => k_is)
    (case c__with_one_fold => k_is)
    (case k__with_one_fold => k_is)
    (case a__with_one_fold_back => k_is)
    (case l__with_one_fold_back => k_is)
    (case c__with_one_fold_back => k_is)
    (case k__with_one_fold_back => k_is)
    (case a__with_one_swap => k_is)
    (case l__with_one_swap => k_is)
    (case c__with_one_swap => k_is)
    (case k__with_one_swap => k_is)
    (case a_may_swap => k_is)
    (case l_may_swap => k_is)
    (case c_may_swap => k_is)
    (case k_may_swap => k_is)
    (case a__swapped => k_is)
    (case l__swapped => k_is)
    (case c__swapped => k_is)
    (case k__swapped => k_is)
    (case a_find_way => k_is)
    (case l_find_way => k_is)
    (case c_find_way => k_is)
    (case k_find_way => k_is)
    (case a__way_to_key => k_is)
    (case l__way_to_key => k_is)
    (case c__way_to_key => k_is)
    (case k__way_to_key => k_is)
    (case a__nearer_to_key => k_is)
    (case l__nearer_to_key => k_is)
    (case c__nearer_to_key => k_is)
    (case k__nearer_to_key => k_is)
    (case a_paper => k_is)
    (case l_paper => k_is)
    (case c_paper => k_is)
    (case k_paper => k_is)
    (case a_holds => k_is)
    (case l_holds => k_is)
    (case c_holds => k_is)
    (case k_holds => k_is)
    (case a__first_difference => k_is)
    (case l__first_difference => k_is)
    (case c__first_difference => k_is)
    (case k__first_difference => k_is)
    (case a__is_way => k_is)
    (case l__is_way => k_is)
    (case c__is_way => k_is)
    (case k__is_way => k_is)
    (case a__law_bag => k_is)
    (case l__law_bag => k_is)
    (case c__law_bag => k_is)
    (case k__law_bag => k_is)
    (case a__law_take => k_is)
    (case l__law_take => k_is)
    (case c__law_take => k_is)
    (case k__law_take => k_is)
    (case a__law_rule => k_is)
    (case l__law_rule => k_is)
    (case c__law_rule => k_is)
    (case k__law_rule => k_is)
    (case a__law_word => k_is)
    (case l__law_word => k_is)
    (case c__law_word => k_is)
    (case k__law_word => k_is)
    (case a__law_key => k_is)
    (case l__law_key => k_is)
    (case c__law_key => k_is)
    (case k__law_key => k_is)
    (case a__law_exchanges => k_is)
    (case l__law_exchanges => k_is)
    (case c__law_exchanges => k_is)
    (case k__law_exchanges => k_is)
    (case a__law_other => k_is)
    (case l__law_other => k_is)
    (case c__law_other => k_is)
    (case k__law_other => k_is)
    (case a__law_is_way => k_is)
    (case l__law_is_way => k_is)
    (case c__law_is_way => k_is)
    (case k__law_is_way => k_is)
    (case a__law_first_index => k_is)
    (case l__law_first_index => k_is)
    (case c__law_first_index => k_is)
    (case k__law_first_index => k_is)
    (case a__law_right => k_is)
    (case l__law_right => k_is)
    (case c__law_right => k_is)
    (case k__law_right => k_is)
    (case a_law => k_is)
    (case l_law => k_is)
    (case c_law => k_is)
    (case k_law => k_is)
    (case a_Table___init__ => k_is)
    (case l_Table___init__ => k_is)
    (case c_Table___init__ => k_is)
    (case k_Table___init__ => k_is)
    (case a_Table___call__ => k_is)
    (case l_Table___call__ => k_is)
    (case c_Table___call__ => k_is)
    (case k_Table___call__ => k_is)
    (case a_Table_folds => k_is)
    (case l_Table_folds => k_is)
    (case c_Table_folds => k_is)
    (case k_Table_folds => k_is)
    (case a_Table_marks => k_is)
    (case l_Table_marks => k_is)
    (case c_Table_marks => k_is)
    (case k_Table_marks => k_is)
    (case a_NoWord___init__ => k_is)
    (case l_NoWord___init__ => k_is)
    (case c_NoWord___init__ => k_is)
    (case k_NoWord___init__ => k_is)
    (case z_isinstance => k_is)
    (case z_str => k_is)
    (case z_int => k_is)
    (case z_bool => k_is)
    (case z_len => k_is)
    (case z_all => k_is)
    (case z_any => k_is)
    (case z_abs => k_is)
    (case z_range => k_is)
    (case z_max => k_is)
    (case z_min => k_is)
    (case z_list => k_is)
    (case z_dict => k_is)
    (case z_sorted => k_is)
    (case z_enumerate => k_is)
    (case z_set => k_is)
    (case z_tuple => k_is)
    (case z_repr => k_is)
    (case g_SIGNS => k_is)
    (case g_LONGEST_WORD => k_is)
    (case g_LONGEST_FOLD => k_is)
    (case g_MOST_FOLDS => k_is)
    (case g_MOST_MARKS => k_is)
    (case g_ONE => k_is)
    (case g_TWO => k_is)
    (case pFg => k_is)
    (case pFt => k_is)
    (case pMg => k_is)
    (case pMt => k_is)
    (case pg => k_is)
    (case hd => k_is)
    (case po => k_is)
    (case sa => k_is)
    (case mkC => k_is)
    (case kc => k_is)
    (case noF => k_is)
    (case noM => k_is)
    (case fnI => k_is)
    (case fnC => k_is)
    (case fiC => k_is)
    (case nMC => k_is)
    (case kMC => k_is)
    (case xL => k_is)
    (case wsa => k_is)
    (case wga => k_is)
    (case wgg => k_is)
    (case wnw => k_is)
    (case wex => k_is)
    (case wty => k_is)
    (case wkp => k_is)
    (case whd => k_is)
    (case wic => k_is)
    (case wss => k_is)
    (case wti => k_is)
    (case wca => k_is)
    (case wcg => k_is)
    (case wct => k_is)
    (case wmo => k_is)


