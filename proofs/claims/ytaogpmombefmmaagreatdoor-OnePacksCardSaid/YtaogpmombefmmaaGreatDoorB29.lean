/- ToksCounts, ToksWrites, ToksReads, ToksBack, ToksMay. -/
import Derived.Test.YtaogpmombefmmaaGreatDoorB21
import Derived.Test.YtaogpmombefmmaaGreatDoorB23
import Derived.Test.YtaogpmombefmmaaGreatDoorB26
