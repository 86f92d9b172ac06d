package replica

import "reunion/api"

// IsPath says whether a file may have this path.
func IsPath(path string) bool {
	if len(path) < 1 || len(path) > api.MaxPath {
		return false
	}
	for i := range len(path) {
		if !isPathByte(path[i]) {
			return false
		}
	}
	return true
}

func isPathByte(b byte) bool { return b == '/' || 'a' <= b && b <= 'z' }
