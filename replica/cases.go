package replica

import "reunion/api"

// pull is the record to behind a pull of its path from the record from, and
// what the pull has done.
func pull(to, from record) (record, int) {
	if isStranger(from, to) {
		return to, api.Nothing
	}
	what := whatPullDoes(to, from)
	switch what {
	case api.Conflict:
		return to, what
	case api.Copied:
		to.file = from.file
	case api.Removed:
		to.remove()
	}
	to.hear(from.known)
	return to, what
}

// isStranger says whether from lacks to's file since it never heard of it.
func isStranger(from, to record) bool {
	return to.isThere() && !from.isThere() && !from.hasBirthOf(to.file)
}

// whatPullDoes is asked of records that are no strangers.
func whatPullDoes(to, from record) int {
	switch {
	case to.isThere() && from.isThere():
		return inBoth(to, from)
	case from.isThere():
		return inFromAlone(to, from)
	case to.isThere():
		return inToAlone(to, from)
	}
	return api.Nothing
}

func inBoth(to, from record) int {
	if to.isVersion(from.file) {
		return api.Nothing
	}
	toIsAhead, fromIsAhead := to.hasChangesOf(from.file), from.hasChangesOf(to.file)
	switch {
	case toIsAhead == fromIsAhead:
		return api.Conflict
	case fromIsAhead:
		return api.Copied
	}
	return api.Nothing
}

func inFromAlone(to, from record) int {
	switch {
	case to.hasChangesOf(from.file):
		return api.Nothing
	case to.hasBirthOf(from.file):
		return api.Conflict
	}
	return api.Copied
}

func inToAlone(to, from record) int {
	if from.hasChangesOf(to.file) {
		return api.Removed
	}
	return api.Conflict
}
